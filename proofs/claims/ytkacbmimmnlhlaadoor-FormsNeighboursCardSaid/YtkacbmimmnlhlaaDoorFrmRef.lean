/- The contracts of the reference of layer 17: letter, head, on, Forms. -/
import Derived.Test.YtkacbmimmnlhlaaDoorFrmOrder
import Derived.Test.YtkacbmimmnlhlaaDoorCluRBase
namespace Go.Proofs.YtkacbmimmnlhlaaDoor
set_option linter.unusedVariables false
open Go.RowKit Go.Shelf Go.Deep
set_option maxRecDepth 100000 in
theorem rletter_any (c : Int) (w : World) :
    Calls Tryd.prog 34 #[.int .i64 c] w fun e W' => e = .returned (.bool (FP.lt c)) ∧ w = W' := by
  go_enter Tryd.func34, Tryd.ntmps34
  by_cases h7 : c = 7
  · subst h7
    go_wp2
    go_ret
    exact ⟨rfl, rfl⟩
  · have b7 : (c == 7) = false := by simpa using h7
    by_cases h8 : c = 8
    · subst h8
      go_wp2
      go_ret
      exact ⟨rfl, rfl⟩
    · have b8 : (c == 8) = false := by simpa using h8
      have hlt : FP.lt c = false := by unfold FP.lt; simp [h7, h8]
      rw [hlt]
      clear hlt h7 h8
      go_wp2
      go_ret
      exact ⟨rfl, rfl⟩
set_option maxRecDepth 100000 in
set_option maxHeartbeats 4000000 in
theorem rhead_any (s : ByteArray) (x : Nat × Nat) (w : World) (hs : s.size ≤ 1000000000) (h1 : x.1 < x.2) (h2 : x.2 ≤ s.size) :
    Calls Tryd.prog 32 #[.string s, .agg #[.int .i64 (x.1 : Int), .int .i64 (x.2 : Int)]] w fun e W' => e = .returned (.int .i64 (FP.hd s x)) ∧ Below w.heap.size w W' := by
  obtain ⟨b, hbb, hb1, hb2, _⟩ := CP.base_spec h1 h2
  have HBA := Lib.hid fun V => rbase_any s (x.1 : Int) (x.2 : Int) V hs
  rw [hbb] at HBA
  have hbs : b < s.size := by omega
  have HCA := Lib.hid fun V => rclass_any ((s[b].toNat : Nat) : Int) V
  have HD : FP.hd s x = FC.cls ((s[b].toNat : Nat) : Int) := by unfold FP.hd CP.cl; rw [hbb, Int.toNat_natCast, CP.ch_at hbs]
  rw [HD]
  generalize FC.cls ((s[b].toNat : Nat) : Int) = rc at HCA ⊢
  have hbi : (b : Int) < (s.size : Int) := by omega
  have hb0 : (0 : Int) ≤ (b : Int) := by omega
  have hby : (s[b].toNat : Int) ≤ 255 := by have := s[b].toNat_lt; omega
  obtain ⟨x1, x2⟩ := x
  simp only at HBA ⊢
  clear h1 h2 hbb hb1 hb2 HD
  obtain ⟨W, hW⟩ : ∃ W, w.alloc (.cells #[.int .i64 (x1 : Int), .int .i64 (x2 : Int)] 29) = W := ⟨_, rfl⟩
  have q0 : W.cell? ⟨w.heap.size, 0, none⟩ = some (.int .i64 (x1 : Int)) := by rw [← hW]; exact (two_cells (World.alloc_heap_new w _)).1
  have q1 : W.cell? ⟨w.heap.size, 1, none⟩ = some (.int .i64 (x2 : Int)) := by rw [← hW]; exact (two_cells (World.alloc_heap_new w _)).2
  have hbW : Below w.heap.size w W := by rw [← hW]; exact balloc (Below.refl _ _) _
  go_enter Tryd.func32, Tryd.ntmps32
  go_wp2_with fail
  try rw [hW]
  clear hW
  refine (HBA.out _).mono ?_
  rintro e w2 ⟨rfl, hb2⟩
  have HB := Lib.hid (bnext hbW hb2)
  clear hb2 hbW q0 q1
  go_wp2_with fail
  refine (HCA.out _).mono ?_
  rintro e _ ⟨rfl, rfl⟩
  go_wp2_with fail
  go_ret
  exact ⟨rfl, HB.out⟩
/-- What on says of any number. -/
def FP.ron (s : ByteArray) (z : Int) : Bool := if z < 0 then false else FP.onx s (CP.split s) z.toNat
set_option maxRecDepth 100000 in
set_option maxHeartbeats 4000000 in
theorem ron_any (s : ByteArray) (v : Value) (z : Int) (w : World) (hs : s.size ≤ 1000000000) (hv : SrcP w v (CP.split s)) (hz : z < ((CP.split s).length : Int)) (hz1 : -1 ≤ z) :
    Calls Tryd.prog 33 #[.string s, v, .int .i64 z] w fun e W' => e = .returned (.bool (FP.ron s z)) ∧ Below w.heap.size w W' := by
  obtain ⟨ao, cc, rfl, hc⟩ := id hv
  by_cases h0 : z < 0
  · rw [show FP.ron s z = false from if_pos h0]
    clear hc hv
    go_enter Tryd.func33, Tryd.ntmps33
    go_wp2_with fail
    go_ret
    exact ⟨rfl, Below.refl _ _⟩
  · obtain ⟨k, rfl⟩ : ∃ k : Nat, z = (k : Int) := ⟨z.toNat, by omega⟩
    rw [show FP.ron s (k : Int) = FP.onx s (CP.split s) k by unfold FP.ron; rw [if_neg h0, Int.toNat_natCast]]
    have hk : k < (CP.split s).length := by omega
    have hn1 : (CP.split s).length ≤ 1000000000 := by have := CP.split_length s; omega
    obtain ⟨x, hx⟩ : ∃ x, (CP.split s)[k]? = some x := ⟨_, List.getElem?_eq_getElem hk⟩
    have hp := CP.sp_mem (CP.sp_split s) x (List.mem_of_getElem? hx)
    obtain ⟨g2, rfl, hg2, hcell⟩ := hc.resolve_left (by intro e; rw [e] at hk; simp at hk)
    obtain ⟨e0, e1⟩ := hcell k x hx
    rw [FP.onx_at hx]
    have HH := Lib.hid fun V => rhead_any s x V hs hp.1 hp.2
    generalize FP.hd s x = c at HH ⊢
    obtain ⟨b, hbb⟩ : ∃ b, x.2 - 1 = b := ⟨_, rfl⟩
    have hbs : b < s.size := by omega
    have HD : FP.en s x = FC.cls ((s[b].toNat : Nat) : Int) := by unfold FP.en CP.cl; rw [hbb, CP.ch_at hbs]
    rw [HD]
    have HCA := Lib.hid fun V => rclass_any ((s[b].toNat : Nat) : Int) V
    generalize FC.cls ((s[b].toNat : Nat) : Int) = d at HCA ⊢
    have hbi : (b : Int) < (s.size : Int) := by omega
    have hb0 : (0 : Int) ≤ (b : Int) := by omega
    have hby : (s[b].toNat : Int) ≤ 255 := by have := s[b].toNat_lt; omega
    obtain ⟨q, hq⟩ : ∃ q, FP.fol s (CP.split s) (k + 1) = q := ⟨_, rfl⟩
    rw [hq]
    have HQ := Lib.hid hq
    obtain ⟨n, hn⟩ : ∃ n, (CP.split s).length = n := ⟨_, rfl⟩
    rw [hn] at hk hn1 hz ⊢
    have hki : (k : Int) < (n : Int) := by omega
    have HN := Lib.hid hn
    have HCELL := Lib.hid hcell
    clear hn
    obtain ⟨x1, x2⟩ := x
    simp only at e0 e1 HH hp hbb
    have hx2 : (x2 : Int) - 1 = (b : Int) := by omega
    obtain ⟨r, hr⟩ : ∃ r, (decide (c = 7) && (!decide (d = 14) && (decide (d = 13) || q))) = r := ⟨_, rfl⟩
    rw [hr]
    have HR := Lib.hid hr
    clear hr
    clear hv hc hcell hx hq HD hp hbb h0 hz
    go_enter Tryd.func33, Tryd.ntmps33
    by_cases h7 : c = 7
    · subst h7
      go_wp2_with fail
      refine (HH.out _).mono ?_
      rintro e w2 ⟨rfl, hb2⟩
      replace e1 := (hb2.cell (World.block_lt_of_cell? _ _ e1)).trans e1
      clear HH e0
      go_wp2_with fail
      refine (HCA.out _).mono ?_
      rintro e _ ⟨rfl, rfl⟩
      by_cases h14 : d = 14
      · subst h14
        clear HCA
        go_wp2_with fail
        go_ret
        exact ⟨retb (by rw [← HR.out]; rfl), hb2⟩
      · have b14 : (d == 14) = false := by simpa using h14
        by_cases h13 : d = 13
        · subst h13
          clear HCA
          go_wp2_with fail
          go_ret
          exact ⟨retb (by rw [← HR.out]; rfl), hb2⟩
        · have b13 : (d == 13) = false := by simpa using h13
          replace HR : Hid (q = r) := Lib.hid (by rw [← HR.out, decide_eq_false h14, decide_eq_false h13]; rfl)
          clear h13 h14 HCA
          by_cases hk1 : k + 1 < n
          · have hk1i : (k : Int) + 1 < (n : Int) := by omega
            obtain ⟨y, hy⟩ : ∃ y, (CP.split s)[k + 1]? = some y := ⟨_, List.getElem?_eq_getElem (by rw [HN.out]; exact hk1)⟩
            have hp2 := CP.sp_mem (CP.sp_split s) y (List.mem_of_getElem? hy)
            obtain ⟨f0, f1⟩ := HCELL.out (k + 1) y hy
            replace f0 := (hb2.cell (World.block_lt_of_cell? _ _ f0)).trans f0
            replace f1 := (hb2.cell (World.block_lt_of_cell? _ _ f1)).trans f1
            have hqq := HQ.out
            rw [FP.fol_at hy] at hqq
            have HH2 := Lib.hid fun V => rhead_any s y V hs hp2.1 hp2.2
            generalize FP.hd s y = c2 at HH2 hqq
            have HL := Lib.hid fun V => rletter_any c2 V
            rw [hqq] at HL
            obtain ⟨y1, y2⟩ := y
            simp only at f0 f1 HH2
            have HB2 := Lib.hid hb2
            clear hqq hy hp2 HQ HN HCELL hb2 e1
            go_wp2_with fail
            refine (HH2.out _).mono ?_
            rintro e w3 ⟨rfl, hb3⟩
            go_wp2_with fail
            refine (HL.out _).mono ?_
            rintro e _ ⟨rfl, rfl⟩
            go_wp2_with fail
            go_ret
            exact ⟨retb (by rw [← HR.out]), bnext HB2.out hb3⟩
          · have hk1i : ¬ (k : Int) + 1 < (n : Int) := by omega
            have hqf : Hid (q = false) := Lib.hid (by rw [← HQ.out, FP.fol_no (by rw [HN.out]; omega)])
            clear HQ HN HCELL
            go_wp2_with fail
            go_ret
            exact ⟨retb (by rw [← HR.out, hqf.out]), hb2⟩
    · have b7 : (c != 7) = true := by simpa using h7
      replace HR : Hid (false = r) := Lib.hid (by rw [← HR.out, decide_eq_false h7, Bool.false_and])
      clear HCA HQ HN HCELL h7
      go_wp2_with fail
      refine (HH.out _).mono ?_
      rintro e w2 ⟨rfl, hb2⟩
      go_wp2_with fail
      go_ret
      exact ⟨retb HR.out, hb2⟩
end Go.Proofs.YtkacbmimmnlhlaaDoor
