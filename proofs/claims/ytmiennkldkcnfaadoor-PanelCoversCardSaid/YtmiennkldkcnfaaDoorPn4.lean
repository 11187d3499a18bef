/- The panel: New, Fail, Updates, Pixels. No conditions. -/
import Derived.Test.YtmiennkldkcnfaaDoorPn3
namespace Go.Proofs.YtmiennkldkcnfaaDoor
set_option maxRecDepth 100000
set_option linter.unusedVariables false
open Go.RowKit Go.Deep
theorem own_empty (w : World) (e : TypeId) (size B : Nat) (hB : B ≤ w.heap.size) : (w.alloc (.cells #[] e)).ownsRow B e size (.slice (some ⟨w.heap.size, 0, none⟩) 0 0) 0 [] :=
  ⟨by simp, .inr ⟨w.heap.size, 0, #[], rfl, hB, heap_alloc_new w _, Nat.le_refl _, by unfold maxLen; omega, by simp, by simp⟩⟩
theorem info_u64 : (Tryd.prog.info? 63).map (fun i => (i.zero, i.size, i.bytes)) = some (some (.int .u64 0), 1, 8) := by kernel_rfl
theorem make_u64 (w : World) (n : Nat) (hn : n ≤ 1000000) : (Instr.makeSlice 32 (.int .i64 (n : Int)) (.int .i64 (n : Int))).run Tryd.prog w = .ok (.slice (some ⟨w.heap.size, 0, none⟩) n n) (w.alloc (.cells ((List.replicate n (0 : Nat)).map U6).toArray 63)) := by
  obtain ⟨i0, hi, hz0, hz1, hz2⟩ := info_parts info_u64
  have h := run_make (P := Tryd.prog) w 32 63 i0 (.int .u64 0) Tryd.underlying32 hi hz0 .i64 .i64 n n (by omega) (by omega) (by rw [hz2]; omega) (by omega)
  simp only [Int.toNat_natCast] at h
  rw [h]
  have e : madeCells (Value.int .u64 0).cells (n * i0.size) = ((List.replicate n (0 : Nat)).map U6).toArray := by
    refine Array.ext' ?_
    rw [show (Value.int .u64 0).cells = #[.int .u64 0] from rfl, toList_madeCells_one, hz1, Nat.mul_one, List.map_replicate]
    rfl
  rw [hz1, Nat.mul_one] at e
  rw [hz1]
  simp only [Nat.mul_one, e]
theorem new_any (W : World) (w h : Nat) (hw : 1 ≤ w ∧ w ≤ 64) (hh : 1 ≤ h ∧ h ≤ 64) : Calls Tryd.prog 12 #[.int .i64 (w : Int), .int .i64 (h : Int)] W fun e w' => ∃ b g, e = .returned (.pointer (some ⟨b, 0, none⟩)) ∧ PnAt w' b g ⟨w, List.replicate h 0, 0, false, 0⟩ ∧ W.heap.size ≤ b ∧ W.heap.size ≤ g ∧ Below W.heap.size W w' := by
  have hm := make_u64 W h (by omega)
  have hx := heap_alloc_new W (.cells ((List.replicate h (0 : Nat)).map U6).toArray 63)
  have hb := balloc (Below.refl _ W) (.cells ((List.replicate h (0 : Nat)).map U6).toArray 63)
  obtain ⟨g, hg⟩ : ∃ g, W.heap.size = g := ⟨_, rfl⟩
  obtain ⟨W1, hW1⟩ : ∃ W1, W.alloc (.cells ((List.replicate h (0 : Nat)).map U6).toArray 63) = W1 := ⟨_, rfl⟩
  have hsz : W1.heap.size = g + 1 := by rw [← hW1]; simp [hg]
  rw [hW1] at hm hx hb
  rw [hg] at hm hx hb
  have HE : Hid (PnAt (W1.alloc (.cells #[.int .i64 (w : Int), .slice (some ⟨g, 0, none⟩) h h, .int .i64 0, .bool false, .int .i64 0] 70)) W1.heap.size g ⟨w, List.replicate h 0, 0, false, 0⟩ ∧ g ≤ W1.heap.size ∧ Below g W (W1.alloc (.cells #[.int .i64 (w : Int), .slice (some ⟨g, 0, none⟩) h h, .int .i64 0, .bool false, .int .i64 0] 70))) := Lib.hid (by
    have hb2 := balloc (Below.refl _ W1) (.cells #[.int .i64 (w : Int), .slice (some ⟨g, 0, none⟩) h h, .int .i64 0, .bool false, .int .i64 0] 70)
    refine ⟨⟨?_, (hb2.block g (by omega)).trans hx, by omega⟩, by omega, ?_⟩
    · rw [heap_alloc_new]
      simp
    · have hb0 : Below W.heap.size W W1 := by rw [hg]; exact hb
      have hb3 := bnext hb0 hb2
      rw [hg] at hb3
      exact hb3)
  rw [hg]
  clear hx hb hW1 hg hsz
  go_enter Tryd.func12, Tryd.ntmps12
  go_wp2
  go_ret
  exact ⟨_, g, rfl, HE.out.1, HE.out.2.1, Nat.le_refl _, HE.out.2.2⟩
theorem new_none (W : World) (w h : Int) (hn : ¬ (1 ≤ w ∧ w ≤ 64 ∧ 1 ≤ h ∧ h ≤ 64)) : Calls Tryd.prog 12 #[.int .i64 w, .int .i64 h] W fun e w' => e = .returned (.pointer none) ∧ w' = W := by
  have HN := Lib.hid hn
  clear hn
  go_enter Tryd.func12, Tryd.ntmps12
  by_cases h1 : w < 1
  · go_wp2
    go_ret
    exact ⟨rfl, rfl⟩
  · by_cases h2 : 64 < w
    · go_wp2
      go_ret
      exact ⟨rfl, rfl⟩
    · by_cases h3 : h < 1
      · go_wp2
        go_ret
        exact ⟨rfl, rfl⟩
      · have h4 : 64 < h := by have := HN.out; omega
        go_wp2
        go_ret
        exact ⟨rfl, rfl⟩
section
variable {V V' : World} {b g : Nat} {P : Pn}
theorem fail_any (h : PnAt V b g P) (ho : PnOk P) (n : Int) : Calls Tryd.prog 31 #[.pointer (some ⟨b, 0, none⟩), .int .i64 n] V fun e w' => e = .returned (.tuple #[]) ∧ PnAt w' b g { P with fa := decide (0 ≤ n), left := n.toNat } ∧ FrS (FP b g) V w' := by
  have HZ := Lib.hid (isZero_no h ho)
  have c3 : V.cell? ⟨b, 3, none⟩ = some (.bool P.fa) := nd_cell h.hd rfl
  have c4 : V.cell? ⟨b, 4, none⟩ = some (.int .i64 (P.left : Int)) := nd_cell h.hd rfl
  have f3 := nd_froz h.hd 3
  have f4 := nd_froz h.hd 4
  obtain ⟨m, hm⟩ : ∃ m : Nat, n.toNat = m := ⟨_, rfl⟩
  rw [hm]
  have hmax : (if 0 < n then n else 0) = (m : Int) := by split <;> omega
  have hmax2 : max 0 n = (m : Int) := by omega
  have HE : Hid (PnAt ((V.setCell ⟨b, 3, none⟩ (.bool (decide (0 ≤ n)))).setCell ⟨b, 4, none⟩ (.int .i64 (m : Int))) b g { P with fa := decide (0 ≤ n), left := m } ∧ FrS (FP b g) V ((V.setCell ⟨b, 3, none⟩ (.bool (decide (0 ≤ n)))).setCell ⟨b, 4, none⟩ (.int .i64 (m : Int)))) := Lib.hid (by
    refine ⟨⟨heap_setCell_same _ b 4 _ _ _ (heap_setCell_same _ b 3 _ _ _ h.hd), ?_, h.ne⟩, (FrS.set V (.inl rfl) _).trans (FrS.set _ (.inl rfl) _)⟩
    rw [Below.heap_setCell _ ⟨b, 4, none⟩ _ g (fun e => h.ne e.symm), Below.heap_setCell _ ⟨b, 3, none⟩ _ g (fun e => h.ne e.symm)]
    exact h.row)
  clear hm h ho
  go_enter Tryd.func31, Tryd.ntmps31
  go_wp2_with fail
  go_at_call 37
  refine HZ.out.mono ?_
  rintro e wz ⟨rfl, he⟩
  have he' := he.symm
  subst he'
  go_wp2
  refine bodyPost_end (v := .tuple #[]) (results_none Tryd.results31 _ _ _) rfl ⟨rfl, HE.out⟩
theorem updates_any (h : PnAt V b g P) (ho : PnOk P) : Calls Tryd.prog 18 #[.pointer (some ⟨b, 0, none⟩)] V fun e w' => e = .returned (.int .i64 (P.upd : Int)) ∧ w' = V := by
  have HZ := Lib.hid (isZero_no h ho)
  have c2 : V.cell? ⟨b, 2, none⟩ = some (.int .i64 (P.upd : Int)) := nd_cell h.hd rfl
  clear h ho
  go_enter Tryd.func18, Tryd.ntmps18
  go_wp2_with fail
  go_at_call 37
  refine HZ.out.mono ?_
  rintro e wz ⟨rfl, he⟩
  have he' := he.symm
  subst he'
  go_wp2
  go_ret
  exact ⟨rfl, rfl⟩
theorem eql_nilU (w : World) (a : Option Addr) (n c : Nat) : (binOp .eql 32 (.slice a n c) (.slice none 0 0)).run Tryd.prog w = .ok (.bool a.isNone) w := by
  simp only [binOp]
  simp [Op.equal, Op.maxDepth, Lib.run_equalIn_slice_nil w 9999 32 63 a n c 0 0 Tryd.underlying32]
theorem u64_cells (L : List Nat) : ∀ u ∈ L.map U6, u.oneCell' = true := fun u hu => by
  obtain ⟨x, -, rfl⟩ := List.mem_map.1 hu
  rfl
theorem PnAt.ua (h : PnAt V b g P) : UA V (.slice (some ⟨g, 0, none⟩) P.R.length P.R.length) P.R :=
  ⟨_, _, rfl, by simp, .inr ⟨g, 0, rfl, (Array.getElem?_eq_some_iff.1 h.row).1, fun j u hu => by rw [Nat.zero_add]; exact nd_cell h.row (by simpa using hu)⟩⟩
theorem clone_any (a : Addr) (n c : Nat) (L : List Nat) (w : World) (hn : L.length = n) (hL : UA w (.slice (some a) n c) L) (hl : n ≤ 1000000) :
    Calls Tryd.prog 38 #[.slice (some a) n c] w fun e w' => ∃ v', e = .returned v' ∧ w'.ownsRow w.heap.size 63 1 v' n (L.map U6) ∧ Below w.heap.size w w' := by
  obtain ⟨i0, hi0, hz0, hz1, hz2⟩ := info_parts info_u64
  have HS : Hid (∀ V, Below w.heap.size w V → SrcN 1 V (.slice (some a) n c) n (L.map U6)) := Lib.hid fun V hV => by
    have := hL.keep hV
    unfold UA at this
    rw [hn] at this
    exact this
  have hq := eql_nilU w (some a) n c
  clear hL hn
  go_enter Tryd.func38, Tryd.ntmps38
  go_wp2_with (at_builtin; refine wpList_appN _ rfl _ _ 32 rfl w.heap.size 63 i0 _ 1 8 Tryd.underlying32 hi0 hz0 hz1 hz2 rfl (by decide) _ 0 [] rfl (own_empty w 63 1 w.heap.size (Nat.le_refl _)) _ n (L.map U6) (by rfl) (HS.out _ (balloc (Below.refl _ _) _)) (u64_cells L) (by unfold maxLen; omega) (by omega) (by simp) ?_; intro v' w1 hown hgrow _; obtain ⟨va, vc, rfl⟩ := own_shape hown)
  have hb : Below w.heap.size w w1 := (balloc (Below.refl _ w) (.cells #[] 63)).grown hgrow (by simp) (fun k e => by have : w.heap.size = k := Option.some.inj e; omega)
  rw [Nat.zero_add, List.nil_append] at hown
  go_wp2
  go_ret
  exact ⟨_, rfl, hown, hb⟩
theorem pixels_any (h : PnAt V b g P) (ho : PnOk P) : Calls Tryd.prog 16 #[.pointer (some ⟨b, 0, none⟩)] V fun e w' => ∃ v', e = .returned v' ∧ w'.ownsRow V.heap.size 63 1 v' P.R.length (P.R.map U6) ∧ Below V.heap.size V w' := by
  have HZ := Lib.hid (isZero_no h ho)
  have c1 : V.cell? ⟨b, 1, none⟩ = some (.slice (some ⟨g, 0, none⟩) P.R.length P.R.length) := nd_cell h.hd rfl
  have HC := Lib.hid (clone_any ⟨g, 0, none⟩ P.R.length P.R.length P.R V rfl h.ua (by have := ho.h64; omega))
  obtain ⟨n, hn⟩ : ∃ n, P.R.length = n := ⟨_, rfl⟩
  rw [hn] at c1 HC ⊢
  clear h ho hn
  go_enter Tryd.func16, Tryd.ntmps16
  go_wp2_with fail
  go_at_call 37
  refine HZ.out.mono ?_
  rintro e wz ⟨rfl, he⟩
  have he' := he.symm
  subst he'
  go_wp2_with fail
  go_at_call 38
  refine HC.out.mono ?_
  rintro e wz ⟨v', rfl, h1, h2⟩
  have H1 := Lib.hid h1
  have H2 := Lib.hid h2
  obtain ⟨va, vc, rfl⟩ := own_shape h1
  clear h1 h2
  go_wp2
  go_ret
  exact ⟨_, rfl, H1.out, H2.out⟩
end
end Go.Proofs.YtmiennkldkcnfaaDoor
