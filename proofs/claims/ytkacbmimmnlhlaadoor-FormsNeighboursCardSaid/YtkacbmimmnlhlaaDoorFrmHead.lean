/- The contracts of the reader's methods: head, end. -/
import Derived.Test.YtkacbmimmnlhlaaDoorFrmOrd
import Derived.Test.YtkacbmimmnlhlaaDoorFrmApart
import Derived.Test.YtkacbmimmnlhlaaDoorCluRBase
import Derived.Deep.RegionHeld3
import Derived.Deep.RegionWith
namespace Go.Proofs.YtkacbmimmnlhlaaDoor
set_option linter.unusedVariables false
open Go.RowKit Go.Shelf Go.Deep
theorem kp4 {W w' : World} {p q r t : Addr} {a b c d : Value} (h1 : W.cell? p = some a) (h2 : W.cell? q = some b) (h3 : W.cell? r = some c) (h4 : W.cell? t = some d) (h : Below W.heap.size W w') :
    Below W.heap.size W w' ∧ w'.cell? p = some a ∧ w'.cell? q = some b ∧ w'.cell? r = some c ∧ w'.cell? t = some d :=
  ⟨h, (h.cell (World.block_lt_of_cell? W _ h1)).trans h1, (h.cell (World.block_lt_of_cell? W _ h2)).trans h2, (h.cell (World.block_lt_of_cell? W _ h3)).trans h3, (h.cell (World.block_lt_of_cell? W _ h4)).trans h4⟩
set_option maxRecDepth 100000 in
set_option maxHeartbeats 4000000 in
theorem head_any (s : ByteArray) (v : Value) (k : Nat) (x : Nat × Nat) (g : Nat × Nat) (w : World) (hl : Laid w g) (hs : s.size ≤ 1000000000) (hv : SrcP w v (CP.split s)) (hx : (CP.split s)[k]? = some x) :
    Calls Tryd.prog 28 #[.agg #[.string s, v], .int .i64 (k : Int)] w fun e w' => e = .returned (.int .i64 (FP.hd s x)) ∧ Below w.heap.size w w' := by
  have HL : Hid (∀ B, Below w.heap.size w B → Laid B g) := Lib.hid fun B hb => hl.mono hb
  obtain ⟨ao, cc, rfl, hc⟩ := hv
  have hk : k < (CP.split s).length := (List.getElem?_eq_some_iff.1 hx).1
  have hp := CP.sp_mem (CP.sp_split s) x (List.mem_of_getElem? hx)
  obtain ⟨g2, rfl, hg2, hcell⟩ := hc.resolve_left (by intro e; rw [e] at hk; simp at hk)
  obtain ⟨e0, e1⟩ := hcell k x hx
  obtain ⟨b, hbb, hb1, hb2, _⟩ := CP.base_spec hp.1 hp.2
  have HBA := Lib.hid fun V (hV : Laid V g) => base_any s (x.1 : Int) (x.2 : Int) g V hV hs
  rw [hbb] at HBA
  have hbs : b < s.size := by omega
  have HCA := Lib.hid fun V (hV : Laid V g) => class_any ((s[b].toNat : Nat) : Int) g V hV
  have HD : FP.hd s x = FC.cls ((s[b].toNat : Nat) : Int) := by unfold FP.hd CP.cl; rw [hbb, Int.toNat_natCast, CP.ch_at hbs]
  rw [HD]
  generalize FC.cls ((s[b].toNat : Nat) : Int) = rc at HCA ⊢
  have hbi : (b : Int) < (s.size : Int) := by omega
  have hb0 : (0 : Int) ≤ (b : Int) := by omega
  have hby : (s[b].toNat : Int) ≤ 255 := by have := s[b].toNat_lt; omega
  have hwb : IntKind.i64.wrap ((s[b].toNat : Nat) : Int) = ((s[b].toNat : Nat) : Int) := by rw [IntKind.wrap_i64]; omega
  generalize (CP.split s).length = n at hk ⊢
  obtain ⟨x1, x2⟩ := x
  simp only at e0 e1 HBA
  have hki : (k : Int) < (n : Int) := by omega
  have hk0 : (0 : Int) ≤ (k : Int) := by omega
  obtain ⟨W, hW⟩ : ∃ W, w.alloc (.cells #[.string s, .slice (some ⟨g2, 0, none⟩) n cc] 50) = W := ⟨_, rfl⟩
  have q0 : W.cell? ⟨w.heap.size, 0, none⟩ = some (.string s) := by rw [← hW]; exact (two_cells (World.alloc_heap_new w _)).1
  have q1 : W.cell? ⟨w.heap.size, 1, none⟩ = some (.slice (some ⟨g2, 0, none⟩) n cc) := by rw [← hW]; exact (two_cells (World.alloc_heap_new w _)).2
  have hbW : Below w.heap.size w W := by rw [← hW]; exact balloc (Below.refl _ _) _
  have q2 := (hbW.cell (World.block_lt_of_cell? _ _ e0)).trans e0
  have q3 := (hbW.cell (World.block_lt_of_cell? _ _ e1)).trans e1
  have HLW : Hid (∀ B, Below W.heap.size W B → Laid B g) := Lib.hid fun B hB => HL.out _ (bnext hbW hB)
  clear hl hc hcell hx hp hbb hb1 hb2 HD e0 e1 hg2
  go_enter Tryd.func28, Tryd.ntmps28
  go_wp2_with fail

  clear hW
  go_region_held3 (fun w' => Below W.heap.size W w' ∧ w'.cell? ⟨w.heap.size, 0, none⟩ = some (.string s) ∧ w'.cell? ⟨w.heap.size, 1, none⟩ = some (.slice (some ⟨g2, 0, none⟩) n cc) ∧ w'.cell? ⟨g2, k * 2, none⟩ = some (.int .i64 (x1 : Int)) ∧ w'.cell? ⟨g2, k * 2 + 1, none⟩ = some (.int .i64 (x2 : Int))) ((refine kp4 q0 q1 q2 q3 ?_; (repeat' (first | exact Below.refl _ _ | (with_reducible assumption) | (refine bnext ?_ (by with_reducible assumption)) | (refine balloc ?_ _) | (refine below_drewN ?_ _) | (refine Below.drew ?_))))) (first | (go_at_call 21; refine (HBA.out _ (HLW.out _ (by (repeat' (first | exact Below.refl _ _ | (with_reducible assumption) | (refine bnext ?_ (by with_reducible assumption)) | (refine balloc ?_ _) | (refine below_drewN ?_ _) | (refine Below.drew ?_)))))).mono ?_; rintro e w5 ⟨rfl, hb5⟩) | (go_at_call 22; refine (HCA.out _ (HLW.out _ (by (repeat' (first | exact Below.refl _ _ | (with_reducible assumption) | (refine bnext ?_ (by with_reducible assumption)) | (refine balloc ?_ _) | (refine below_drewN ?_ _) | (refine Below.drew ?_)))))).mono ?_; rintro e w6 ⟨rfl, hb6⟩))
  have hS : Below w.heap.size w w6 := bnext hbW (‹Below W.heap.size W w6 ∧ w6.cell? ⟨w.heap.size, 0, none⟩ = some (.string s) ∧ w6.cell? ⟨w.heap.size, 1, none⟩ = some (.slice (some ⟨g2, 0, none⟩) n cc) ∧ w6.cell? ⟨g2, k * 2, none⟩ = some (.int .i64 (x1 : Int)) ∧ w6.cell? ⟨g2, k * 2 + 1, none⟩ = some (.int .i64 (x2 : Int))›).1
  clear hb5 hb6 q0 q1 q2 q3 hbW HLW HBA HCA
  go_wp2
  go_ret
  exact ⟨rfl, hS⟩
set_option maxRecDepth 100000 in
set_option maxHeartbeats 4000000 in
theorem end_any (s : ByteArray) (v : Value) (k : Nat) (x : Nat × Nat) (g : Nat × Nat) (w : World) (hl : Laid w g) (hs : s.size ≤ 1000000000) (hv : SrcP w v (CP.split s)) (hx : (CP.split s)[k]? = some x) :
    Calls Tryd.prog 42 #[.agg #[.string s, v], .int .i64 (k : Int)] w fun e w' => e = .returned (.int .i64 (FP.en s x)) ∧ Below w.heap.size w w' := by
  have HL : Hid (∀ B, Below w.heap.size w B → Laid B g) := Lib.hid fun B hb => hl.mono hb
  obtain ⟨ao, cc, rfl, hc⟩ := hv
  have hk : k < (CP.split s).length := (List.getElem?_eq_some_iff.1 hx).1
  have hp := CP.sp_mem (CP.sp_split s) x (List.mem_of_getElem? hx)
  obtain ⟨g2, rfl, hg2, hcell⟩ := hc.resolve_left (by intro e; rw [e] at hk; simp at hk)
  obtain ⟨e0, e1⟩ := hcell k x hx
  obtain ⟨b, hbb⟩ : ∃ b, x.2 - 1 = b := ⟨_, rfl⟩
  have hbs : b < s.size := by omega
  have HCA := Lib.hid fun V (hV : Laid V g) => class_any ((s[b].toNat : Nat) : Int) g V hV
  have HD : FP.en s x = FC.cls ((s[b].toNat : Nat) : Int) := by unfold FP.en CP.cl; rw [hbb, CP.ch_at hbs]
  rw [HD]
  generalize FC.cls ((s[b].toNat : Nat) : Int) = rc at HCA ⊢
  have hbi : (b : Int) < (s.size : Int) := by omega
  have hb0 : (0 : Int) ≤ (b : Int) := by omega
  have hby : (s[b].toNat : Int) ≤ 255 := by have := s[b].toNat_lt; omega
  have hwb : IntKind.i64.wrap ((s[b].toNat : Nat) : Int) = ((s[b].toNat : Nat) : Int) := by rw [IntKind.wrap_i64]; omega
  generalize (CP.split s).length = n at hk ⊢
  obtain ⟨x1, x2⟩ := x
  simp only at e0 e1 hp hbb
  have hx2 : (x2 : Int) - 1 = (b : Int) := by omega
  have hx2w : IntKind.i64.wrap ((x2 : Int) - 1) = (b : Int) := by rw [hx2, IntKind.wrap_i64]; omega
  have hx2v : IntKind.i64.wrap (b : Int) = (b : Int) := by rw [IntKind.wrap_i64]; omega
  have hx2u : wrap64 (b : Int) = (b : Int) := by unfold wrap64; omega
  have hx2t : wrap64 ((x2 : Int) - 1) = (b : Int) := by rw [hx2]; exact hx2u
  have hki : (k : Int) < (n : Int) := by omega
  have hk0 : (0 : Int) ≤ (k : Int) := by omega
  obtain ⟨W, hW⟩ : ∃ W, w.alloc (.cells #[.string s, .slice (some ⟨g2, 0, none⟩) n cc] 50) = W := ⟨_, rfl⟩
  have q0 : W.cell? ⟨w.heap.size, 0, none⟩ = some (.string s) := by rw [← hW]; exact (two_cells (World.alloc_heap_new w _)).1
  have q1 : W.cell? ⟨w.heap.size, 1, none⟩ = some (.slice (some ⟨g2, 0, none⟩) n cc) := by rw [← hW]; exact (two_cells (World.alloc_heap_new w _)).2
  have hbW : Below w.heap.size w W := by rw [← hW]; exact balloc (Below.refl _ _) _
  have q2 := (hbW.cell (World.block_lt_of_cell? _ _ e0)).trans e0
  have q3 := (hbW.cell (World.block_lt_of_cell? _ _ e1)).trans e1
  have HLW : Hid (∀ B, Below W.heap.size W B → Laid B g) := Lib.hid fun B hB => HL.out _ (bnext hbW hB)
  clear hl hc hcell hx hp hbb HD e0 e1 hg2
  go_enter Tryd.func42, Tryd.ntmps42
  go_wp2_with fail
  clear hW
  go_region_held3 (fun w' => Below W.heap.size W w' ∧ w'.cell? ⟨w.heap.size, 0, none⟩ = some (.string s) ∧ w'.cell? ⟨w.heap.size, 1, none⟩ = some (.slice (some ⟨g2, 0, none⟩) n cc) ∧ w'.cell? ⟨g2, k * 2, none⟩ = some (.int .i64 (x1 : Int)) ∧ w'.cell? ⟨g2, k * 2 + 1, none⟩ = some (.int .i64 (x2 : Int))) ((refine kp4 q0 q1 q2 q3 ?_; (repeat' (first | exact Below.refl _ _ | (with_reducible assumption) | (refine bnext ?_ (by with_reducible assumption)) | (refine balloc ?_ _) | (refine below_drewN ?_ _) | (refine Below.drew ?_))))) (first | (go_at_call 22; refine (HCA.out _ (HLW.out _ (by (repeat' (first | exact Below.refl _ _ | (with_reducible assumption) | (refine bnext ?_ (by with_reducible assumption)) | (refine balloc ?_ _) | (refine below_drewN ?_ _) | (refine Below.drew ?_)))))).mono ?_; rintro e w5 ⟨rfl, hb5⟩))
  have hS : Below w.heap.size w w5 := bnext hbW (‹Below W.heap.size W w5 ∧ w5.cell? ⟨w.heap.size, 0, none⟩ = some (.string s) ∧ w5.cell? ⟨w.heap.size, 1, none⟩ = some (.slice (some ⟨g2, 0, none⟩) n cc) ∧ w5.cell? ⟨g2, k * 2, none⟩ = some (.int .i64 (x1 : Int)) ∧ w5.cell? ⟨g2, k * 2 + 1, none⟩ = some (.int .i64 (x2 : Int))›).1
  clear hb5 q0 q1 q2 q3 hbW HLW HCA
  go_wp2
  go_ret
  exact ⟨rfl, hS⟩
end Go.Proofs.YtkacbmimmnlhlaaDoor
