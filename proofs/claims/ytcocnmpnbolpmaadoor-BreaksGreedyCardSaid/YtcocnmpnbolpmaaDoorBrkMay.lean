/- The contract of breaks.May. -/
import Derived.Test.YtcocnmpnbolpmaaDoorBrkIns
import Derived.Test.YtcocnmpnbolpmaaDoorApp
import Derived.Deep.RegionHeld3
import Derived.Deep.RegionWith
namespace Go.Proofs.YtcocnmpnbolpmaaDoor
set_option linter.unusedVariables false
open Go.RowKit Go.Shelf Go.Deep
/-- What an order of a statement that reads two rows and sets a place of a third one keeps. -/
def RegS (C k gh o u : Nat) (p q : Int) (w2 w' : World) : Prop := Below w2.heap.size w2 w' ∧ w'.cell? ⟨C, 1, none⟩ = some (.int .i64 (u : Int)) ∧ w'.cell? ⟨gh, o + k, none⟩ = some (.int .i64 p) ∧ w'.cell? ⟨gh, o + (k + 1), none⟩ = some (.int .i64 q)
theorem RegS.store {C k gh o u : Nat} {p q : Int} {w2 w' : World} (h : RegS C k gh o u p q w2 w') {B : Nat} (h2 : w2.heap.size ≤ B) (hC : C ≠ B) (hG : gh ≠ B) (x : Value) :
    RegS C k gh o u p q w2 (w'.setCell ⟨B, k, none⟩ x) := by
  obtain ⟨h1, c1, c2, c3⟩ := h
  refine ⟨bset h1 h2 _, ?_, ?_, ?_⟩
  · rw [World.cell?_setCell_far _ _ _ _ (fun e => hC e.symm)]; exact c1
  · rw [World.cell?_setCell_far _ _ _ _ (fun e => hG e.symm)]; exact c2
  · rw [World.cell?_setCell_far _ _ _ _ (fun e => hG e.symm)]; exact c3
set_option maxRecDepth 100000 in
set_option maxHeartbeats 4000000 in
theorem may_cap (s : ByteArray) (g : Nat × Nat) (w : World) (hl : Laid w g) (hs : s.size ≤ 1000000000) :
    Calls Tryd.prog 12 #[.string s] w fun e W' => ∃ v', e = .returned v' ∧ Src W' v' ((BP.may s).map (Value.int .i64)) ∧ (∀ a n c, v' = .slice a n c → n ≤ c) ∧ Below w.heap.size w W' := by
  have HL : Hid (∀ B, Below w.heap.size w B → Laid B g) := Lib.hid fun B hb => hl.mono hb
  have acc0 : Below w.heap.size w w := Below.refl _ _
  have hmem := CP.sp_mem (CP.sp_split s)
  have hlen : (CP.split s).length ≤ 1000000000 := Nat.le_trans (CP.split_length s) hs
  have HML : Hid (∀ k, k < (BP.heads s (CP.split s)).length → (BP.may s).take (k + 1) = (BP.may s).take k ++ [BP.may1 (BP.heads s (CP.split s)) (BP.ends s (CP.split s)) k]) := Lib.hid fun k hk => by
    unfold BP.may BP.mayL
    rw [List.take_add_one, List.getElem?_map, List.getElem?_range hk]; rfl
  have HEN : Hid (∀ k x, (CP.split s)[k]? = some x → (BP.ends s (CP.split s)).getD k 0 = CP.ch s (x.2 - 1)) := Lib.hid fun k x hx => by
    simp [BP.ends, List.getD, hx, BP.en]
  have hmlen := BP.may_length s
  have hhlen : (BP.heads s (CP.split s)).length = (CP.split s).length := by simp [BP.heads]
  obtain ⟨M, hMd⟩ : ∃ M, BP.may s = M := ⟨_, rfl⟩
  rw [hMd] at HML hmlen ⊢
  clear hMd
  go_enter Tryd.func12, Tryd.ntmps12
  go_wp2_with fail
  refine (split_any s g _ hl hs).mono ?_
  rintro e w1 ⟨vs, rfl, os, hb1⟩
  have acc1 := bnext acc0 hb1
  have hsp := own_srcP os
  have HH := Lib.hid (heads_any s vs (CP.split s) g w1 (HL.out _ acc1) hs hsp hlen hmem)
  obtain ⟨ao, ac, rfl, hr⟩ := hsp
  generalize BP.heads s (CP.split s) = H at HH HML hhlen
  generalize BP.ends s (CP.split s) = E at HML HEN
  generalize CP.split s = l at hmem hlen HEN hmlen hhlen hr HH
  have HMM := Lib.hid hmem
  clear hl os hb1 hmem
  go_wp2_with fail
  refine HH.out.mono ?_
  rintro e w2 ⟨vh, rfl, oh, hb2⟩
  have acc2 := bnext acc1 hb2
  have hrh := own_src oh (by rw [List.length_map]; exact hhlen.symm)
  obtain ⟨ho, hc, rfl, hrH⟩ := hrh.row
  obtain ⟨w3, hmk, hown, hb3, hw3⟩ := make_ints w2 l.length w2.heap.size (Nat.le_refl _) hlen
  rw [List.length_map, hhlen]
  clear oh hrh HH
  go_wp2_with fail
  have hr2 : l = [] ∨ ∃ q, ao = some ⟨q, 0, none⟩ ∧ q < w2.heap.size ∧ ∀ i x, l[i]? = some x → w2.cell? ⟨q, i * 2, none⟩ = some (.int .i64 (x.1 : Int)) ∧ w2.cell? ⟨q, i * 2 + 1, none⟩ = some (.int .i64 (x.2 : Int)) := by
    rcases hr with h | ⟨q, h1, h2, h3⟩
    · exact .inl h
    · exact .inr ⟨q, h1, Nat.lt_of_lt_of_le h2 hb2.size, fun i x hx => ⟨(hb2.cell (p := ⟨q, i * 2, none⟩) h2).trans (h3 i x hx).1, (hb2.cell (p := ⟨q, i * 2 + 1, none⟩) h2).trans (h3 i x hx).2⟩⟩
  clear hr
  have hHc : ∀ k, k < l.length → ∃ gh o, ho = some ⟨gh, o, none⟩ ∧ gh < w2.heap.size ∧ w2.cell? ⟨gh, o + k, none⟩ = some (.int .i64 (H.getD k 0)) ∧ (k + 1 < l.length → w2.cell? ⟨gh, o + (k + 1), none⟩ = some (.int .i64 (H.getD (k + 1) 0))) := by
    intro k hk
    rcases hrH with h | ⟨gh, o, h1, h2, h3⟩
    · have : (H.map (Value.int .i64)).length = 0 := by rw [h]; rfl
      simp at this; rw [this] at hhlen; simp at hhlen; omega
    · refine ⟨gh, o, h1, h2, ?_, fun hk1 => ?_⟩
      · rw [h3 k (by rw [List.length_map]; omega)]; simp [List.getD, List.getElem?_eq_getElem (show k < H.length by omega)]
      · rw [h3 (k + 1) (by rw [List.length_map]; omega)]; simp [List.getD, List.getElem?_eq_getElem (show k + 1 < H.length by omega)]
  have HHC := Lib.hid hHc
  clear hHc hrH hmk
  go_loopw [18] (fun v18 wr => ∃ k : Nat, v18 = .int .i64 k ∧ k ≤ l.length ∧ wr.ownsRow w2.heap.size 3 1 (.slice (some ⟨w2.heap.size, 0, none⟩) l.length l.length) l.length ((M.take k ++ List.replicate (l.length - k) 0).map (Value.int .i64)) ∧ Below w2.heap.size w2 wr) (fun v _ => l.length - (intOf v).toNat)
  case atStart => exact ⟨0, rfl, Nat.zero_le _, by simpa using hown, hb3⟩
  case round =>
    obtain ⟨k, rfl, hk, hrow, hb⟩ := hrel
    have hbs := hb.size
    by_cases h1 : k < l.length
    · have h1i : (k : Int) < (l.length : Int) := by omega
      obtain ⟨x, hx⟩ : ∃ x, l[k]? = some x := ⟨l[k], List.getElem?_eq_getElem h1⟩
      have hxm := HMM.out x (List.mem_of_getElem? hx)
      obtain ⟨gh, o, rfl, hgh, hp0, hp1⟩ := HHC.out k h1
      rcases hr2 with rfl | ⟨g', rfl, hg, hc⟩
      · simp at h1
      · obtain ⟨c0, c1⟩ := hc k x hx
        have hM := HML.out k (by omega)
        have hE := HEN.out k x hx
        have hmk2 : BP.may1 H E k = if FC.cls (H.getD k 0) = 1 then 2 else if k + 1 < l.length then BP.ins (H.getD k 0) (CP.ch s (x.2 - 1)) (H.getD (k + 1) 0) else 0 := by unfold BP.may1; rw [hE, hhlen]
        have hlk : (M.take k).length = k := by rw [List.length_take]; omega
        have hrep : List.replicate (l.length - k) (0 : Int) = 0 :: List.replicate (l.length - (k + 1)) 0 := by rw [← List.replicate_succ]; congr 1; omega
        rw [hrep] at hrow
        have HMk := Lib.hid hM
        have HK := Lib.hid hlk
        have HMM2 := Lib.hid hmk2
        generalize BP.may1 H E k = mk at HMk HMM2
        generalize M.take k = A at hrow HMk HK
        generalize hR : List.replicate (l.length - (k + 1)) (0 : Int) = R at hrow
        have HR := Lib.hid hR
        generalize H.getD k 0 = p at hp0 HMM2
        generalize H.getD (k + 1) 0 = q at hp1 HMM2
        obtain ⟨f, u⟩ := x
        simp only at c0 c1 hxm HMM2
        obtain ⟨j, hj⟩ : ∃ j, u = j + 1 := ⟨u - 1, by omega⟩
        have huj : (u : Int) - 1 = (j : Int) := by omega
        have hjs : j < s.size := by omega
        have hjsi : (j : Int) < (s.size : Int) := by omega
        have hby : (s[j].toNat : Int) ≤ 255 := by have := s[j].toNat_lt; omega
        rw [show u - 1 = j by omega, CP.ch_at hjs] at HMM2
        have KP := Lib.hid fun (W : World) (hW : Below w.heap.size w W) => class_any p g W (HL.out _ hW)
        have IN := Lib.hid fun (W : World) (hW : Below w.heap.size w W) => inside_any p (s[j].toNat : Int) q g W (HL.out _ hW)
        have HC := Lib.hid hc
        have hbA : Below w2.heap.size w2 (wr.alloc (.cells #[.int .i64 (f : Int), .int .i64 (u : Int)] 33)) := balloc hb _
        have ACC2 := Lib.hid acc2
        replace c0 := (hb.cell (p := ⟨g', k * 2, none⟩) hg).trans c0
        replace c1 := (hb.cell (p := ⟨g', k * 2 + 1, none⟩) hg).trans c1
        have HP0 := Lib.hid hp0
        have HP1 := Lib.hid hp1
        have d0 := (hbA.cell (p := ⟨gh, o + k, none⟩) hgh).trans hp0
        have hw2r : w2.heap.size < wr.heap.size := (hrow.lt _ rfl).2
        have HROW := Lib.hid (hrow.alloc (.cells #[.int .i64 (f : Int), .int .i64 (u : Int)] 33))
        clear hc hx hM hE hmk2 hlk hrep hR hj hp0 hp1 hrow hmlen acc2 acc1 acc0
        go_wp2_with fail
        obtain ⟨W, hW⟩ : ∃ W, wr.alloc (.cells #[.int .i64 (f : Int), .int .i64 (u : Int)] 33) = W := ⟨_, rfl⟩
        have e1 : W.cell? ⟨wr.heap.size, 1, none⟩ = some (.int .i64 (u : Int)) := by rw [← hW]; exact (two_cells (World.alloc_heap_new wr _)).2
        have hWs : wr.heap.size < W.heap.size := by rw [← hW]; simp
        rw [hW] at hbA HROW ⊢
        have HBA := Lib.hid hbA
        clear hW c0 c1 d0 hb hbA
        refine (KP.out _ (bnext ACC2.out HBA.out)).mono ?_
        rintro e w5 ⟨rfl, hb5⟩
        replace e1 := (hb5.cell (p := ⟨wr.heap.size, 1, none⟩) hWs).trans e1
        replace hWs := Nat.lt_of_lt_of_le hWs hb5.size
        have HB5 := Lib.hid (bnext HBA.out hb5)
        replace HROW := Lib.hid (own_below HROW.out hb5)
        clear hb5
        by_cases hp : FC.cls p = 1
        · have hcell := HROW.out.cellAt k (by omega)
          have hfr := HROW.out.frozenAt k
          rw [show ((A ++ 0 :: R).map (Value.int .i64))[k]? = some (.int .i64 0) by rw [← HK.out]; simp] at hcell
          rw [hp]
          have HPP := Lib.hid hp
          clear hp
          go_wp2_with fail
          go_roundw
          case rel =>
            refine ⟨k + 1, by go_num, h1, ?_, bset HB5.out (Nat.le_refl _) _⟩
            have h2 := (HROW.out.stored k (.int .i64 2)).1
            have h3 := set_mid A R 0 2
            rw [HK.out] at h3
            rw [h3] at h2
            rw [HMk.out, HMM2.out, if_pos HPP.out, HR.out]
            exact h2
          case measure => simp [intOf]; omega
        · have hp' : (FC.cls p == 1) = false := by simpa using hp
          by_cases hk1 : k + 1 < l.length
          · have hk1i : (k : Int) + 1 < (l.length : Int) := by omega
            have hmv : mk = BP.ins p (s[j].toNat : Int) q := by rw [HMM2.out, if_neg hp, if_pos hk1]
            have HMV := Lib.hid hmv
            have f0 := (HB5.out.cell (p := ⟨gh, o + k, none⟩) hgh).trans HP0.out
            have f1 := (HB5.out.cell (p := ⟨gh, o + (k + 1), none⟩) hgh).trans (HP1.out hk1)
            have f1' : w5.cell? ⟨gh, o + k + 1, none⟩ = some (.int .i64 q) := f1
            clear hp hmv
            generalize FC.cls p = pc at hp'
            go_wp2_with fail
            have hcell := HROW.out.cellAt k (by omega)
            have hfr := HROW.out.frozenAt k
            rw [show ((A ++ 0 :: R).map (Value.int .i64))[k]? = some (.int .i64 0) by rw [← HK.out]; simp] at hcell
            have hw25 : w2.heap.size ≤ w5.heap.size := HB5.out.size
            have x0 : (0 : Int) ≤ (k : Int) := by omega
            have x1 : (0 : Int) ≤ (k : Int) + 1 := by omega
            have x2 : IntKind.i64.wrap ((k : Int) + 1) = (k : Int) + 1 := by rw [IntKind.wrap_i64]; omega
            have x3 : (0 : Int) ≤ (j : Int) := by omega
            have x4 : IntKind.i64.wrap (j : Int) = (j : Int) := by rw [IntKind.wrap_i64]; omega
            have x6 : IntKind.i64.wrap (s[j].toNat : Int) = (s[j].toNat : Int) := by rw [IntKind.wrap_i64]; omega
            have x5 : ((k : Int) + 1).toNat = k + 1 := by omega
            have hkpm : ∀ w', Below w5.heap.size w5 w' → RegS wr.heap.size k gh o u p q w2 w' := fun w' h => ⟨bnext HB5.out h, (h.cell (p := ⟨wr.heap.size, 1, none⟩) hWs).trans e1, (h.cell (p := ⟨gh, o + k, none⟩) (Nat.lt_of_lt_of_le hgh hw25)).trans f0, (h.cell (p := ⟨gh, o + (k + 1), none⟩) (Nat.lt_of_lt_of_le hgh hw25)).trans f1⟩
            have HCF : Hid (∀ w', Below w5.heap.size w5 w' → w'.cell? ⟨w2.heap.size, k, none⟩ = some (.int .i64 0) ∧ w'.frozen? ⟨w2.heap.size, k, none⟩ = false) := Lib.hid fun w' h => ⟨(h.cell (p := ⟨w2.heap.size, k, none⟩) (World.block_lt_of_cell? _ _ hcell)).trans hcell, (h.frozen (p := ⟨w2.heap.size, k, none⟩) (World.block_lt_of_cell? _ _ hcell)).trans hfr⟩
            have HRR := Lib.hid hkpm
            have H1 := Lib.hid h1
            have HNE : Hid (wr.heap.size ≠ w2.heap.size ∧ gh ≠ w2.heap.size) := Lib.hid ⟨by omega, by omega⟩
            have HG := Lib.hid hgh
            try clear hkpm
            try clear HL
            try clear HML
            try clear HEN
            try clear HMM
            try clear HHC
            try clear KP
            try clear HP0
            try clear HP1
            try clear HC
            try clear hxm
            try clear HBA
            try clear hg
            try clear hgh
            try clear hown
            try clear hb3
            try clear hlen
            try clear hhlen
            try clear hbs
            try clear hb1
            try clear hb2
            try clear hk
            try clear hw3
            try clear hsz
            try clear hWs
            try clear e1
            try clear f0
            try clear f1
            try clear f1'
            try clear hcell
            try clear hfr
            try clear hw25
            try clear hs
            try clear hk1
            try clear h1
            have HST : Hid (∀ w' x, Below w5.heap.size w5 w' → RegS wr.heap.size k gh o u p q w2 (w'.setCell ⟨w2.heap.size, k, none⟩ x)) := Lib.hid fun w' x h => (HRR.out w' h).store (Nat.le_refl _) HNE.out.1 HNE.out.2 x
            go_region_held3 (fun w' => Below w2.heap.size w2 w' ∧ w'.cell? ⟨wr.heap.size, 1, none⟩ = some (.int .i64 (u : Int)) ∧ w'.cell? ⟨gh, o + k, none⟩ = some (.int .i64 p) ∧ w'.cell? ⟨gh, o + (k + 1), none⟩ = some (.int .i64 q)) (first | (refine HRR.out _ ?_; (repeat' (first | exact Below.refl _ _ | (with_reducible assumption) | (refine bnext ?_ (by with_reducible assumption)) | (refine balloc ?_ _) | (refine below_drewN ?_ _) | (refine Below.drew ?_))); done) | (refine HST.out _ _ ?_; (repeat' (first | exact Below.refl _ _ | (with_reducible assumption) | (refine bnext ?_ (by with_reducible assumption)) | (refine balloc ?_ _) | (refine below_drewN ?_ _) | (refine Below.drew ?_))); done)) (first | (go_at_call 25; refine (IN.out _ (bnext ACC2.out (bnext HB5.out (by (repeat' (first | exact Below.refl _ _ | (with_reducible assumption) | (refine bnext ?_ (by with_reducible assumption)) | (refine balloc ?_ _) | (refine below_drewN ?_ _) | (refine Below.drew ?_))))))).mono ?_; rintro e w8 ⟨rfl, hb8⟩; have hb58 : Below w5.heap.size w5 w8 := (by (repeat' (first | exact Below.refl _ _ | (with_reducible assumption) | (refine bnext ?_ (by with_reducible assumption)) | (refine balloc ?_ _) | (refine below_drewN ?_ _) | (refine Below.drew ?_)))); have hc8 := (HCF.out w8 hb58).1; have hf8 := (HCF.out w8 hb58).2))
            have HB8 := Lib.hid (bnext HB5.out hb58)
            have HR8 := Lib.hid (own_below HROW.out hb58)
            clear hb58 hb8 hc8 hf8
            go_wp2_with fail
            go_roundw
            case rel =>
              refine ⟨k + 1, by go_num, H1.out, ?_, bset HB8.out (Nat.le_refl _) _⟩
              have h2 := (HR8.out.stored k (.int .i64 (BP.ins p (s[j].toNat : Int) q))).1
              have h3 := set_mid A R 0 (BP.ins p (s[j].toNat : Int) q)
              rw [HK.out] at h3
              rw [h3] at h2
              rw [HMk.out, HMV.out, HR.out]
              exact h2
            case measure => simp [intOf]; omega
          · have hk1i : ¬ (k : Int) + 1 < (l.length : Int) := by omega
            have hmv : mk = 0 := by rw [HMM2.out, if_neg hp, if_neg hk1]
            subst hmv
            clear hp
            generalize FC.cls p = pc at hp'
            go_wp2_with fail
            go_roundw
            case rel =>
              refine ⟨k + 1, by go_num, h1, ?_, HB5.out⟩
              rw [HMk.out, HR.out, List.append_assoc]
              exact HROW.out
            case measure => simp [intOf]; omega
    · obtain rfl : k = l.length := by omega
      rw [Nat.sub_self, List.replicate_zero, List.append_nil, List.take_of_length_le (Nat.le_of_eq hmlen)] at hrow
      have hsrc := own_src hrow (by rw [List.length_map]; exact hmlen.symm)
      clear hr2 hrow
      go_wp2
      go_ret
      exact ⟨.slice (some ⟨w2.heap.size, 0, none⟩) l.length l.length, rfl, hsrc, (fun a n c h => by injection h with _ h2 h3; omega), bnext acc2 hb⟩
theorem may_any (s : ByteArray) (g : Nat × Nat) (w : World) (hl : Laid w g) (hs : s.size ≤ 1000000000) :
    Calls Tryd.prog 12 #[.string s] w fun e W' => ∃ v', e = .returned v' ∧ Src W' v' ((BP.may s).map (Value.int .i64)) ∧ Below w.heap.size w W' :=
  (may_cap s g w hl hs).mono fun e W' ⟨v, h1, h2, _, h3⟩ => ⟨v, h1, h2, h3⟩
end Go.Proofs.YtcocnmpnbolpmaaDoor
