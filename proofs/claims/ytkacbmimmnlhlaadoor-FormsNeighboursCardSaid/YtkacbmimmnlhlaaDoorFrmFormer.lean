/- The contract of the function that forms.former hands back. -/
import Derived.Test.YtkacbmimmnlhlaaDoorFrmDual2
namespace Go.Proofs.YtkacbmimmnlhlaaDoor
set_option linter.unusedVariables false
open Go.RowKit Go.Shelf Go.Deep
theorem kp3m {W w' : World} {p q r : Addr} {a b c : Value} {L : World → Prop} (h1 : W.cell? p = some a) (h2 : W.cell? q = some b) (h3 : W.cell? r = some c) (HL : Hid (∀ V, Below W.heap.size W V → L V)) (h : Below W.heap.size W w') :
    Below W.heap.size W w' ∧ w'.cell? p = some a ∧ w'.cell? q = some b ∧ w'.cell? r = some c ∧ L w' :=
  ⟨h, (h.cell (World.block_lt_of_cell? W _ h1)).trans h1, (h.cell (World.block_lt_of_cell? W _ h2)).trans h2, (h.cell (World.block_lt_of_cell? W _ h3)).trans h3, HL.out _ h⟩
theorem frm_dv {s : ByteArray} {l : List (Nat × Nat)} {k : Nat} (h : FP.fol s l k = true) : FP.frm s l k = dv (FP.tox s l k) (FP.onx s l k) := by
  unfold FP.frm dv
  rw [if_pos h]
theorem frm_no {s : ByteArray} {l : List (Nat × Nat)} {k : Nat} (h : FP.fol s l k = false) : FP.frm s l k = 0 := by
  unfold FP.frm
  rw [h]; rfl
set_option maxRecDepth 100000 in
set_option maxHeartbeats 4000000 in
theorem former1_any (s : ByteArray) (ao : Option Addr) (n cc k bh bm bt bo m cl : Nat) (es : Es) (g : Nat × Nat) (w : World) (hl : Laid w g) (hs : s.size ≤ 1000000000) (hn : (CP.split s).length = n) (hv : SrcP w (.slice ao n cc) (CP.split s)) (hk : k < n)
    (q0 : w.cell? ⟨bh, 0, none⟩ = some (.func (.func 28) #[.agg #[.string s, .slice ao n cc]] #[])) (q1 : w.cell? ⟨bm, 0, none⟩ = some (.map (some m))) (q2 : w.cell? ⟨bt, 0, none⟩ = some (.func (.func 29) #[.agg #[.string s, .slice ao n cc]] #[])) (q3 : w.cell? ⟨bo, 0, none⟩ = some (.func (.func 30) #[.agg #[.string s, .slice ao n cc]] #[])) (hd : dualOk es = true) (hm : w.heap[m]? = some (.map (ents es) cl)) :
    Calls Tryd.prog 40 #[.int .i64 (k : Int), .pointer (some ⟨bh, 0, none⟩), .pointer (some ⟨bm, 0, none⟩), .pointer (some ⟨bt, 0, none⟩), .pointer (some ⟨bo, 0, none⟩)] w fun e w' => e = .returned (.int .i64 (FP.frm s (CP.split s) k)) ∧ Below w.heap.size w w' := by
  have HLV : Hid (∀ B, Below w.heap.size w B → Laid B g ∧ SrcP B (.slice ao n cc) (CP.split s)) := Lib.hid fun B hB => ⟨hl.mono hB, hv.keep hB⟩
  obtain ⟨x, hx⟩ : ∃ x, (CP.split s)[k]? = some x := ⟨_, List.getElem?_eq_getElem (hn ▸ hk)⟩
  have hfo := FP.fol_at (s := s) hx
  have HH : Hid (∀ V, Below w.heap.size w V → Calls Tryd.prog 28 #[.agg #[.string s, .slice ao n cc], .int .i64 (k : Int)] V fun e w' => e = .returned (.int .i64 (FP.hd s x)) ∧ Below V.heap.size V w') := Lib.hid fun V hV => head_any s _ k x g V (HLV.out V hV).1 hs (HLV.out V hV).2 hx
  have HT : Hid (∀ V, Below w.heap.size w V → Calls Tryd.prog 29 #[.agg #[.string s, .slice ao n cc], .int .i64 (k : Int)] V fun e w' => e = .returned (.bool (FP.tox s (CP.split s) k)) ∧ Below V.heap.size V w') := Lib.hid fun V hV => to_any s _ k _ rfl g V (HLV.out V hV).1 hs (HLV.out V hV).2 (by omega)
  have HO : Hid (∀ V, Below w.heap.size w V → Calls Tryd.prog 30 #[.agg #[.string s, .slice ao n cc], .int .i64 (k : Int)] V fun e w' => e = .returned (.bool (FP.onx s (CP.split s) k)) ∧ Below V.heap.size V w') := Lib.hid fun V hV => on_any s _ k _ rfl g V (HLV.out V hV).1 hs (HLV.out V hV).2 (by omega)
  have HFR := Lib.hid (frm_dv (s := s) (l := CP.split s) (k := k))
  have HFN := Lib.hid (frm_no (s := s) (l := CP.split s) (k := k))
  rw [hfo] at HFR HFN
  generalize FP.hd s x = c at HH HFR HFN
  generalize FP.frm s (CP.split s) k = fr at HFR HFN ⊢
  generalize FP.tox s (CP.split s) k = x1 at HT HFR
  generalize FP.onx s (CP.split s) k = x2 at HO HFR
  have HMP : Hid (∀ V, Below w.heap.size w V → (Instr.lookup 61 (.map (some m)) (.agg #[.bool x1, .bool x2]) false).run Tryd.prog V = .ok (.int .i64 (dv x1 x2)) V) := Lib.hid fun V hV => lk_run V m cl es ((hV.block m (Array.getElem?_eq_some_iff.1 hm).1).trans hm) x1 x2 _ (dual_at hd x1 x2)
  clear hx hfo HLV hv hl hm hd hn
  go_enter Tryd.func40, Tryd.ntmps40
  go_wp2_with fail
  go_at_call 28
  refine (HH.out _ (by (repeat' (first | exact Below.refl _ _ | (with_reducible assumption) | (refine bnext ?_ (by with_reducible assumption)) | (refine balloc ?_ _) | (refine below_drewN ?_ _) | (refine Below.drew ?_))))).mono ?_
  rintro e w5 ⟨rfl, hb5⟩
  replace q1 := (hb5.cell (World.block_lt_of_cell? _ _ q1)).trans q1
  replace q2 := (hb5.cell (World.block_lt_of_cell? _ _ q2)).trans q2
  replace q3 := (hb5.cell (World.block_lt_of_cell? _ _ q3)).trans q3
  have HMP5 : Hid (∀ V, Below w5.heap.size w5 V → (Instr.lookup 61 (.map (some m)) (.agg #[.bool x1, .bool x2]) false).run Tryd.prog V = .ok (.int .i64 (dv x1 x2)) V) := Lib.hid fun V hV => HMP.out V (bnext hb5 hV)
  have HT5 := Lib.hid (fun V (hV : Below w5.heap.size w5 V) => HT.out V (bnext hb5 hV))
  have HO5 := Lib.hid (fun V (hV : Below w5.heap.size w5 V) => HO.out V (bnext hb5 hV))
  have HB5 := Lib.hid hb5
  by_cases hlt : FP.lt c = true
  · have hfr := HFR.out hlt
    subst hfr
    have hcs : c = 7 ∨ c = 8 := by unfold FP.lt at hlt; simpa using hlt
    clear hlt HFR HFN HH HT HO HMP hb5 q0
    rcases hcs with rfl | rfl
    all_goals
      go_wp2_with fail
      go_region_held3 (fun w' => Below w5.heap.size w5 w' ∧ w'.cell? ⟨bm, 0, none⟩ = some (.map (some m)) ∧ w'.cell? ⟨bt, 0, none⟩ = some (.func (.func 29) #[.agg #[.string s, .slice ao n cc]] #[]) ∧ w'.cell? ⟨bo, 0, none⟩ = some (.func (.func 30) #[.agg #[.string s, .slice ao n cc]] #[]) ∧ (Instr.lookup 61 (.map (some m)) (.agg #[.bool x1, .bool x2]) false).run Tryd.prog w' = .ok (.int .i64 (dv x1 x2)) w') ((refine kp3m q1 q2 q3 HMP5 ?_; (repeat' (first | exact Below.refl _ _ | (with_reducible assumption) | (refine bnext ?_ (by with_reducible assumption)) | (refine balloc ?_ _) | (refine below_drewN ?_ _) | (refine Below.drew ?_))))) (first | (go_at_call 29; refine (HT5.out _ (by (repeat' (first | exact Below.refl _ _ | (with_reducible assumption) | (refine bnext ?_ (by with_reducible assumption)) | (refine balloc ?_ _) | (refine below_drewN ?_ _) | (refine Below.drew ?_))))).mono ?_; rintro e w6 ⟨rfl, hb_w6⟩) | (go_at_call 30; refine (HO5.out _ (by (repeat' (first | exact Below.refl _ _ | (with_reducible assumption) | (refine bnext ?_ (by with_reducible assumption)) | (refine balloc ?_ _) | (refine below_drewN ?_ _) | (refine Below.drew ?_))))).mono ?_; rintro e w7 ⟨rfl, hb_w7⟩))
      have hS : Below w.heap.size w w7 := bnext HB5.out (‹Below w5.heap.size w5 w7 ∧ w7.cell? ⟨bm, 0, none⟩ = some (.map (some m)) ∧ w7.cell? ⟨bt, 0, none⟩ = some (.func (.func 29) #[.agg #[.string s, .slice ao n cc]] #[]) ∧ w7.cell? ⟨bo, 0, none⟩ = some (.func (.func 30) #[.agg #[.string s, .slice ao n cc]] #[]) ∧ (Instr.lookup 61 (.map (some m)) (.agg #[.bool x1, .bool x2]) false).run Tryd.prog w7 = .ok (.int .i64 (dv x1 x2)) w7›).1
      clear hb_w6 hb_w7 HT5 HO5 HMP5 q1 q2 q3
      go_wp2
      go_ret
      exact ⟨rfl, hS⟩
  · have hlf : FP.lt c = false := by simpa using hlt
    have hfr := HFN.out hlf
    subst hfr
    have h78 : c ≠ 7 ∧ c ≠ 8 := by unfold FP.lt at hlf; simpa using hlf
    have b7 : (c != 7) = true := by simpa using h78.1
    have b8 : (c != 8) = true := by simpa using h78.2
    have b7' : (c == 7) = false := by simpa using h78.1
    have b8' : (c == 8) = false := by simpa using h78.2
    clear hlt hlf HFR HFN HH HT HO HMP HMP5 hb5 q0 q1 q2 q3 h78 HT5 HO5
    go_wp2_with fail
    go_ret
    exact ⟨rfl, HB5.out⟩
end Go.Proofs.YtkacbmimmnlhlaaDoor
