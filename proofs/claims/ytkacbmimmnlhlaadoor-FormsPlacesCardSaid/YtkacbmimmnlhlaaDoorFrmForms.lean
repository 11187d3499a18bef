/- The contract of forms.Forms. -/
import Derived.Test.YtkacbmimmnlhlaaDoorFrmForm
namespace Go.Proofs.YtkacbmimmnlhlaaDoor
set_option linter.unusedVariables false
open Go.RowKit Go.Shelf Go.Deep
theorem own_base {w : World} {B B' e n : Nat} {v : Value} {xs : List Value} (h : w.ownsRow B e 1 v n xs) (hB : B' ≤ B) : w.ownsRow B' e 1 v n xs := by
  refine ⟨h.1, ?_⟩
  rcases h.2 with h1 | ⟨g, cap, cur, rfl, hb, rest⟩
  · exact .inl h1
  · exact .inr ⟨g, cap, cur, rfl, Nat.le_trans hB hb, rest⟩


set_option maxRecDepth 100000 in
set_option maxHeartbeats 4000000 in
theorem forms_any (s : ByteArray) (g : Nat × Nat) (w : World) (hl : Laid w g) (hs : s.size ≤ 1000000000) :
    Calls Tryd.prog 12 #[.string s] w fun e W' => ∃ v', e = .returned v' ∧ W'.ownsRow w.heap.size 3 1 v' (CP.split s).length ((FP.forms s).map (Value.int .i64)) ∧ Below w.heap.size w W' := by
  have HL : Hid (∀ B, Below w.heap.size w B → Laid B g) := Lib.hid fun B hb => hl.mono hb
  have HRD := Lib.hid (read_any s g w hl hs)
  clear hl
  go_enter Tryd.func12, Tryd.ntmps12
  go_wp2_with fail
  refine HRD.out.mono ?_
  rintro e w1 ⟨v, rfl, hsp, hb1⟩
  obtain ⟨ao, cc, rfl, _⟩ := id hsp
  obtain ⟨n, hn⟩ : ∃ n, (CP.split s).length = n := ⟨_, rfl⟩
  have hn1 : n ≤ 1000000000 := by have := CP.split_length s; omega
  rw [hn] at hsp ⊢
  obtain ⟨W2, hW2⟩ : ∃ W, w1.alloc (.cells #[.string s, .slice ao n cc] 50) = W := ⟨_, rfl⟩
  have d0 : W2.cell? ⟨w1.heap.size, 0, none⟩ = some (.string s) := by rw [← hW2]; exact (two_cells (World.alloc_heap_new w1 _)).1
  have d1 : W2.cell? ⟨w1.heap.size, 1, none⟩ = some (.slice ao n cc) := by rw [← hW2]; exact (two_cells (World.alloc_heap_new w1 _)).2
  have hb2 : Below w1.heap.size w1 W2 := by rw [← hW2]; exact balloc (Below.refl _ _) _
  go_wp2_with fail
  try rw [hW2]
  clear hW2
  refine (former_any s ao n cc W2).mono ?_
  rintro e w3 ⟨bh, bm, bt, bo, m, cl, es, rfl, q0, q1, q2, q3, hd, hm, hb3⟩
  replace d1 := (hb3.cell (World.block_lt_of_cell? _ _ d1)).trans d1
  replace d0 := (hb3.cell (World.block_lt_of_cell? _ _ d0)).trans d0
  have hb13 : Below w.heap.size w w3 := bnext hb1 (bnext hb2 hb3)
  have HSP := Lib.hid (hsp.keep (bnext hb2 hb3))
  have HFM : Hid (∀ (k : Nat) (V : World), k < n → Below w3.heap.size w3 V → Calls Tryd.prog 40 #[.int .i64 (k : Int), .pointer (some ⟨bh, 0, none⟩), .pointer (some ⟨bm, 0, none⟩), .pointer (some ⟨bt, 0, none⟩), .pointer (some ⟨bo, 0, none⟩)] V fun e w' => e = .returned (.int .i64 (FP.frm s (CP.split s) k)) ∧ Below V.heap.size V w') := Lib.hid fun k V hk hV =>
    former1_any s ao n cc k bh bm bt bo m cl es g V (HL.out _ (bnext hb13 hV)) hs hn (HSP.out.keep hV) hk ((hV.cell (World.block_lt_of_cell? _ _ q0)).trans q0) ((hV.cell (World.block_lt_of_cell? _ _ q1)).trans q1) ((hV.cell (World.block_lt_of_cell? _ _ q2)).trans q2) ((hV.cell (World.block_lt_of_cell? _ _ q3)).trans q3) hd ((hV.block m (Array.getElem?_eq_some_iff.1 hm).1).trans hm)
  have HB13 := Lib.hid hb13
  have HFS : Hid (FP.forms s = (List.range n).map (FP.frm s (CP.split s))) := Lib.hid (by rw [← hn]; rfl)
  have HN := Lib.hid hn
  obtain ⟨F, hF⟩ : ∃ F, FP.frm s (CP.split s) = F := ⟨_, rfl⟩
  rw [hF] at HFM HFS
  clear hF
  obtain ⟨w4, hmk, hown, hb4, hw4⟩ := make_ints w3 n w3.heap.size (Nat.le_refl _) hn1
  clear q0 q1 q2 q3 hd hm hsp hb1 hb2 hb3 hb13 HRD hn
  go_wp2_with fail
  go_loopw [22] (fun v22 wr => ∃ k : Nat, v22 = .int .i64 k ∧ k ≤ n ∧ wr.ownsRow w3.heap.size 3 1 (.slice (some ⟨w3.heap.size, 0, none⟩) n n) n (((List.range k).map F ++ List.replicate (n - k) 0).map (Value.int .i64)) ∧ Below w3.heap.size w3 wr) (fun v _ => n - (intOf v).toNat)
  case atStart => exact ⟨0, rfl, Nat.zero_le _, by simpa using hown, hb4⟩
  case round =>
    obtain ⟨k, rfl, hk, hrow, hb⟩ := hrel
    have hbs := hb.size
    by_cases h1 : k < n
    · have h1i : (k : Int) < (n : Int) := by omega
      have hh : (List.range (k + 1)).map F = (List.range k).map F ++ [F k] := by rw [List.range_succ, List.map_append]; rfl
      have hlk : ((List.range k).map F).length = k := by simp
      have hrep : List.replicate (n - k) (0 : Int) = 0 :: List.replicate (n - (k + 1)) 0 := by rw [← List.replicate_succ]; congr 1; omega
      rw [hrep] at hrow
      have HH := Lib.hid hh
      have HK := Lib.hid hlk
      have HCC := Lib.hid (HFM.out k wr h1 hb)
      generalize (List.range k).map F = A at hrow HH HK
      generalize F k = fk at HCC HH
      generalize hR : List.replicate (n - (k + 1)) (0 : Int) = R at hrow
      have HR := Lib.hid hR
      clear hR hh hlk hrep hmk hown
      go_wp2_with fail
      refine HCC.out.mono ?_
      rintro e w5 ⟨rfl, hb5⟩
      have hrow3 := own_below hrow hb5
      have hcell := hrow3.cellAt k (by omega)
      have hfr := hrow3.frozenAt k
      have hst := hrow3.stored k (.int .i64 fk)
      have HB3 := Lib.hid (bnext hb hb5)
      rw [show ((A ++ 0 :: R).map (Value.int .i64))[k]? = some (.int .i64 0) by rw [← HK.out]; simp] at hcell
      have HST := Lib.hid hst
      clear hst hrow3 hrow hb hb5
      go_wp2_with fail
      go_roundw
      case rel =>
        refine ⟨k + 1, by go_num, h1, ?_, bset HB3.out (Nat.le_refl _) _⟩
        have h2 := HST.out.1
        have h3 := set_mid A R 0 fk
        rw [HK.out] at h3
        rw [h3] at h2
        rw [HH.out, HR.out]
        exact h2
      case measure => simp [intOf]; omega
    · obtain rfl : k = n := by omega
      rw [Nat.sub_self, List.replicate_zero, List.append_nil] at hrow
      have HROW := Lib.hid hrow
      clear hmk hown hrow
      go_wp2
      go_ret
      exact ⟨_, rfl, by rw [HN.out, HFS.out]; exact own_base HROW.out HB13.out.size, bnext HB13.out hb⟩
end Go.Proofs.YtkacbmimmnlhlaaDoor
