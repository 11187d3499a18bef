/- For every list of numbers FormsNeighbours returns true: what joins on is followed by what is joined to, and the reverse. No conditions. -/
import Derived.Test.YtkacbmimmnlhlaaDoorFrmSane
import Derived.Test.YtkacbmimmnlhlaaDoorClsLaid
import Derived.Deep.Cut
import Derived.Deep.CutRange
namespace Go.Proofs.YtkacbmimmnlhlaaDoor.formsNeighbours
open Go.ChangeShapes Go.WideShapes Go.ChangeAt Go.RowKit Go.Joins Go.Deep
set_option linter.unusedVariables false

theorem text_of {v : Value} {a : List Int} {w W : World} (n : Nat) (hn : n ≤ 1000) (hv : RowAt w v (a.map (Value.int .i64))) (hL : a.length ≤ maxLen) (hE : ∀ x, x ∈ a → -9223372036854775808 ≤ x ∧ x ≤ 9223372036854775807) (hb : Below w.heap.size w W) :
    Calls Tryd.prog 10 #[v, .int .i64 n] W fun e W' => ∃ t : ByteArray, e = .returned (.string t) ∧ t.size ≤ n ∧ Below W.heap.size W W' :=
  text_any v a n W (hv.keep hb) hE hL hn
set_option maxRecDepth 100000 in
set_option maxHeartbeats 8000000 in
theorem walk (v0 : Value) (a0 : List Int) (g : Nat × Nat)  (w : World) (hl : Laid w g) (H0 : RowAt w v0 (a0.map (Value.int .i64))) (L0 : a0.length ≤ maxLen ∧ ∀ a n c, v0 = .slice a n c → n ≤ c) (E0 : ∀ x, x ∈ a0 → -9223372036854775808 ≤ x ∧ x ≤ 9223372036854775807) :
    Calls Tryd.prog 6 #[v0] w fun e w' => e = .returned (.bool true) ∧ Below w.heap.size w w' := by
  have HL : Hid (∀ B, Below w.heap.size w B → Laid B g) := Lib.hid fun B hb => hl.mono hb
  have acc0 : Below w.heap.size w w := Below.refl _ _
  have HM0 := Lib.hid (fun W (hb : Below w.heap.size w W) => text_of 60 (by omega) H0 L0.1 E0 hb)
  clear H0 E0
  go_enter Tryd.func6, Tryd.ntmps6
  go_wp2_with fail
  refine (sane_any g _ hl).mono ?_
  rintro e w1 ⟨rfl, hb1⟩
  have acc1 := bnext acc0 hb1
  clear hb1 acc0
  go_wp2_with fail
  refine (HM0.out _ acc1).mono ?_
  rintro e w2 ⟨t, rfl, ht, hb2⟩
  have acc2 := bnext acc1 hb2
  have ht1 : t.size ≤ 1000000000 := by omega
  clear hb2 acc1 HM0
  go_wp2_with fail
  refine (split_any t g _ (HL.out _ acc2) ht1).mono ?_
  rintro e w3 ⟨vc, rfl, oc, hb3⟩
  have acc3 := bnext acc2 hb3
  have hsp := own_srcP oc
  obtain ⟨ao, ac, rfl, _⟩ := id hsp
  clear oc hb3
  go_wp2_with fail
  refine (forms_any t g _ (HL.out _ acc3) ht1).mono ?_
  rintro e w4 ⟨vf, rfl, of, hb4⟩
  have acc4 := bnext acc3 hb4
  replace hsp := hsp.keep hb4
  have hsf := own_src of (by rw [List.length_map, FP.forms_length])
  obtain ⟨af, cf, rfl, hrf⟩ := id hsf
  obtain ⟨_, _, hso, hcc⟩ := id hsp
  injection hso with hs1 _ hs3
  subst hs1 hs3
  have hlen := CP.split_length t
  have HLL : Hid (((FP.forms t).map (Value.int .i64)).length = (CP.split t).length) := Lib.hid (by rw [List.length_map, FP.forms_length])
  rw [HLL.out] at hrf ⊢
  obtain ⟨n, hn⟩ : ∃ n, (CP.split t).length = n := ⟨_, rfl⟩
  have HN := Lib.hid hn
  have HCF : Hid (∀ j, j < n → w4.cell? ⟨(af.getD ⟨0, 0, none⟩).block, (af.getD ⟨0, 0, none⟩).off + j, none⟩ = some (.int .i64 (FP.frm t (CP.split t) j)) ∧ af = some ⟨(af.getD ⟨0, 0, none⟩).block, (af.getD ⟨0, 0, none⟩).off, none⟩) := Lib.hid fun j hj => by
    rcases hrf with ⟨h, _⟩ | ⟨q, o, rfl, hq, hc⟩
    · have : (FP.forms t).length = 0 := by simpa using congrArg List.length h
      rw [FP.forms_length] at this; omega
    · refine ⟨?_, rfl⟩
      have := hc j (by omega)
      rw [show ((FP.forms t).map (Value.int .i64)).getD j (.bool false) = .int .i64 (FP.frm t (CP.split t) j) by simp [List.getD, FP.forms_get (show j < (CP.split t).length by omega)]] at this
      exact this
  rw [hn] at hlen ⊢
  have hn1 : n ≤ 1000 := by omega
  have ACC := Lib.hid acc4
  have HCC := Lib.hid hcc
  clear hsp hsf hrf of hb4 acc2 acc3 acc4 hcc hn
  go_wp2_with fail
  go_loopw [7] (fun v7 wr => ∃ k : Nat, v7 = .int .i64 k ∧ k ≤ n ∧ Below w4.heap.size w4 wr) (fun v _ => n - (intOf v).toNat)
  case atStart => exact ⟨0, rfl, Nat.zero_le _, Below.refl _ _⟩
  case round =>
    obtain ⟨k, rfl, hk, hb⟩ := hrel
    by_cases h1 : k < n
    · have h1i : (k : Int) < (n : Int) := by omega
      have h1n : k < (CP.split t).length := by rw [HN.out]; exact h1
      obtain ⟨x, hx⟩ : ∃ x, (CP.split t)[k]? = some x := ⟨_, List.getElem?_eq_getElem h1n⟩
      have hp := CP.sp_mem (CP.sp_split t) x (List.mem_of_getElem? hx)
      obtain ⟨g2, rfl, hg2, hcell⟩ := HCC.out.resolve_left (by intro e; rw [e] at h1n; simp at h1n)
      obtain ⟨e0, e1⟩ := hcell k x hx
      obtain ⟨gf, of, rfl⟩ : ∃ gf of, af = some ⟨gf, of, none⟩ := ⟨_, _, (HCF.out k h1).2⟩
      replace HCF : Hid (∀ j, j < n → w4.cell? ⟨gf, of + j, none⟩ = some (.int .i64 (FP.frm t (CP.split t) j))) := Lib.hid fun j hj => (HCF.out j hj).1
      have HB := Lib.hid hb
      have E0 := Lib.hid e0
      have E1 : Hid (∀ V, Below w4.heap.size w4 V → V.cell? ⟨g2, k * 2 + 1, none⟩ = some (.int .i64 (x.2 : Int))) := Lib.hid fun V hV => (hV.cell (World.block_lt_of_cell? _ _ e1)).trans e1
      have CV : Hid (∀ V, Below w4.heap.size w4 V → V.cell? ⟨gf, of + k, none⟩ = some (.int .i64 (FP.frm t (CP.split t) k))) := Lib.hid fun V hV => (hV.cell (World.block_lt_of_cell? _ _ (HCF.out k h1))).trans (HCF.out k h1)
      -- plain facts
      have hfz := FP.frm_zero t (CP.split t) k
      rw [FP.fol_at hx] at hfz
      have HNX : Hid (FP.onx t (CP.split t) k = true → FP.en t x ≠ 13 → k + 1 < n ∧ (FP.frm t (CP.split t) (k + 1) = 4 ∨ FP.frm t (CP.split t) (k + 1) = 3)) := Lib.hid fun h hj => by
        obtain ⟨h2, h3⟩ := FP.next_to hx h hj
        have := FP.frm_to t (CP.split t) (k + 1)
        rw [h3] at this
        exact ⟨by rw [← HN.out]; exact h2, by simpa using this⟩
      have HPV : Hid (FP.tox t (CP.split t) k = true → 0 < k ∧ (FP.frm t (CP.split t) (k - 1) = 2 ∨ FP.frm t (CP.split t) (k - 1) = 3)) := Lib.hid fun h => by
        obtain ⟨h2, h3⟩ := FP.prev_on h
        have := FP.frm_on t (CP.split t) (k - 1)
        rw [h3] at this
        exact ⟨h2, by simpa using this⟩
      have hfo := FP.frm_on t (CP.split t) k
      have hft := FP.frm_to t (CP.split t) k
      have hbd := FP.frm_bd t (CP.split t) k
      rw [← hfo] at HNX
      rw [← hft] at HPV
      obtain ⟨b0, hbb, hb1, hb2', _⟩ := CP.base_spec hp.1 hp.2
      have HBA := Lib.hid fun V (hV : Below w4.heap.size w4 V) => base_any t (x.1 : Int) (x.2 : Int) g V (HL.out _ (bnext ACC.out hV)) ht1
      rw [hbb] at HBA
      have hbs : b0 < t.size := by omega
      have HJA := Lib.hid fun V (hV : Below w4.heap.size w4 V) => joins_any ((t[b0].toNat : Nat) : Int) g V (HL.out _ (bnext ACC.out hV))
      have hjb : FC.joinB ((t[b0].toNat : Nat) : Int) = FP.lt (FP.hd t x) := by
        unfold FC.joinB FP.lt FP.hd CP.cl
        rw [hbb, Int.toNat_natCast, CP.ch_at hbs]
        by_cases h7 : FC.cls ((t[b0].toNat : Nat) : Int) = 7 <;> simp [h7]
      rw [hjb] at HJA
      generalize FP.lt (FP.hd t x) = F at HJA hfz
      generalize FC.dualB ((t[b0].toNat : Nat) : Int) = dB at HJA
      have hbi : (b0 : Int) < (t.size : Int) := by omega
      have hb00 : (0 : Int) ≤ (b0 : Int) := by omega
      have hby : (t[b0].toNat : Int) ≤ 255 := by have := t[b0].toNat_lt; omega
      obtain ⟨b1, hbb1⟩ : ∃ b, x.2 - 1 = b := ⟨_, rfl⟩
      have hbs1 : b1 < t.size := by omega
      have HD : FP.en t x = FC.cls ((t[b1].toNat : Nat) : Int) := by unfold FP.en CP.cl; rw [hbb1, CP.ch_at hbs1]
      rw [HD] at HNX
      have HCA := Lib.hid fun V (hV : Below w4.heap.size w4 V) => class_any ((t[b1].toNat : Nat) : Int) g V (HL.out _ (bnext ACC.out hV))
      generalize FC.cls ((t[b1].toNat : Nat) : Int) = d at HCA HNX
      have hbi1 : (b1 : Int) < (t.size : Int) := by omega
      have hb01 : (0 : Int) ≤ (b1 : Int) := by omega
      have hby1 : (t[b1].toNat : Int) ≤ 255 := by have := t[b1].toNat_lt; omega
      obtain ⟨x1, x2⟩ := x
      simp only at E0 E1 HBA hbb1 hp
      have hx2 : (x2 : Int) - 1 = (b1 : Int) := by omega
      replace hfz := hfz.symm
      generalize FP.frm t (CP.split t) k = v at CV hfz hbd HNX HPV
      have hv : v = 0 ∨ v = 1 ∨ v = 2 ∨ v = 3 ∨ v = 4 := by omega
      have HX1 := Lib.hid hx2
      have c0 := (hb.cell (World.block_lt_of_cell? _ _ E0.out)).trans E0.out
      have c1 := E1.out wr hb
      clear hx hcell e0 e1 h1n hb hp hbb hb1 hb2' hbb1 HD hjb hfo hft hbd HCC E0
      go_wp2_with fail
      refine (HBA.out _ HB.out).mono ?_
      rintro e w5 ⟨rfl, hb5⟩
      have HB5 := Lib.hid (bnext HB.out hb5)
      clear hb5 HBA c0 c1
      go_wp2_with fail
      refine (HJA.out _ HB5.out).mono ?_
      rintro e w6 ⟨rfl, hb6⟩
      have HB6 := Lib.hid (bnext HB5.out hb6)
      have c1 := E1.out w6 HB6.out
      have cv := CV.out w6 HB6.out
      clear hb6 HJA
      rcases hv with rfl | rfl | rfl | rfl | rfl
      · skip
        obtain rfl : F = false := by have := hfz; simp at this; exact this
        go_upto_region 13 with fail
        go_wp2_with fail
        refine (HCA.out _ HB6.out).mono ?_
        rintro e w7 ⟨rfl, hb7⟩
        have HB9 := Lib.hid (bnext HB6.out hb7)
        have cv7 := CV.out w7 HB9.out
        clear hb7 cv c1 HCA hfz
        clear HNX HPV HCF
        by_cases hk1 : k + 1 < n
        · have hk1i : (k : Int) + 1 < (n : Int) := by omega
          have hk1e : ((k : Int) + 1 == (n : Int)) = false := by simp; omega
          go_wp2_with fail
          go_roundw
          case rel => exact ⟨k + 1, by go_num, h1, HB9.out⟩
          case measure => simp [intOf]; omega
        · have hk1i : ¬ (k : Int) + 1 < (n : Int) := by omega
          have hk1e : ((k : Int) + 1 == (n : Int)) = true := by simp; omega
          go_wp2_with fail
          go_roundw
          case rel => exact ⟨k + 1, by go_num, h1, HB9.out⟩
          case measure => simp [intOf]; omega
      · skip
        obtain rfl : F = true := by have := hfz; simp at this; exact this
        go_upto_region 13 with fail
        go_wp2_with fail
        refine (HCA.out _ HB6.out).mono ?_
        rintro e w7 ⟨rfl, hb7⟩
        have HB9 := Lib.hid (bnext HB6.out hb7)
        have cv7 := CV.out w7 HB9.out
        clear hb7 cv c1 HCA hfz
        clear HNX HPV HCF
        by_cases hk1 : k + 1 < n
        · have hk1i : (k : Int) + 1 < (n : Int) := by omega
          have hk1e : ((k : Int) + 1 == (n : Int)) = false := by simp; omega
          go_wp2_with fail
          go_roundw
          case rel => exact ⟨k + 1, by go_num, h1, HB9.out⟩
          case measure => simp [intOf]; omega
        · have hk1i : ¬ (k : Int) + 1 < (n : Int) := by omega
          have hk1e : ((k : Int) + 1 == (n : Int)) = true := by simp; omega
          go_wp2_with fail
          go_roundw
          case rel => exact ⟨k + 1, by go_num, h1, HB9.out⟩
          case measure => simp [intOf]; omega
      · skip
        obtain rfl : F = true := by have := hfz; simp at this; exact this
        go_upto_region 13 with fail
        go_wp2_with fail
        refine (HCA.out _ HB6.out).mono ?_
        rintro e w7 ⟨rfl, hb7⟩
        have HB9 := Lib.hid (bnext HB6.out hb7)
        have cv7 := CV.out w7 HB9.out
        clear hb7 cv c1 HCA hfz
        by_cases h13 : d = 13
        · subst h13
          clear HNX HPV HCF
          by_cases hk1 : k + 1 < n
          · have hk1i : (k : Int) + 1 < (n : Int) := by omega
            have hk1e : ((k : Int) + 1 == (n : Int)) = false := by simp; omega
            go_wp2_with fail
            go_roundw
            case rel => exact ⟨k + 1, by go_num, h1, HB9.out⟩
            case measure => simp [intOf]; omega
          · have hk1i : ¬ (k : Int) + 1 < (n : Int) := by omega
            have hk1e : ((k : Int) + 1 == (n : Int)) = true := by simp; omega
            go_wp2_with fail
            go_roundw
            case rel => exact ⟨k + 1, by go_num, h1, HB9.out⟩
            case measure => simp [intOf]; omega
        · have b13 : (d == 13) = false := by simpa using h13
          obtain ⟨hk1, hv2⟩ := HNX.out rfl h13
          have hk1i : (k : Int) + 1 < (n : Int) := by omega
          have hk1e : ((k : Int) + 1 == (n : Int)) = false := by simp; omega
          have cn := (HB9.out.cell (World.block_lt_of_cell? _ _ (HCF.out (k + 1) hk1))).trans (HCF.out (k + 1) hk1)
          generalize FP.frm t (CP.split t) (k + 1) = v2 at cn hv2
          rcases hv2 with rfl | rfl
          all_goals
            clear HNX HPV HCF
            go_wp2_with fail
            go_roundw
            case rel => exact ⟨k + 1, by go_num, h1, HB9.out⟩
            case measure => simp [intOf]; omega
      · skip
        obtain rfl : F = true := by have := hfz; simp at this; exact this
        go_upto_region 13 with fail
        go_wp2_with fail
        refine (HCA.out _ HB6.out).mono ?_
        rintro e w7 ⟨rfl, hb7⟩
        have HB9 := Lib.hid (bnext HB6.out hb7)
        have cv7 := CV.out w7 HB9.out
        clear hb7 cv c1 HCA hfz
        obtain ⟨hk0, hv0⟩ := HPV.out rfl
        have hj0 : ((k : Int) == 0) = false := by simp; omega
        obtain ⟨j, hji, hjn, hjk⟩ : ∃ j : Nat, (k : Int) - 1 = (j : Int) ∧ j < n ∧ k - 1 = j := ⟨k - 1, by omega, by omega, rfl⟩
        have cp := (HB9.out.cell (World.block_lt_of_cell? _ _ (HCF.out j hjn))).trans (HCF.out j hjn)
        rw [hjk] at hv0
        clear hjk
        generalize FP.frm t (CP.split t) j = v0' at cp hv0
        rcases hv0 with rfl | rfl
        all_goals
          by_cases h13 : d = 13
          · subst h13
            clear HNX HPV HCF
            by_cases hk1 : k + 1 < n
            · have hk1i : (k : Int) + 1 < (n : Int) := by omega
              have hk1e : ((k : Int) + 1 == (n : Int)) = false := by simp; omega
              go_wp2_with fail
              go_roundw
              case rel => exact ⟨k + 1, by go_num, h1, HB9.out⟩
              case measure => simp [intOf]; omega
            · have hk1i : ¬ (k : Int) + 1 < (n : Int) := by omega
              have hk1e : ((k : Int) + 1 == (n : Int)) = true := by simp; omega
              go_wp2_with fail
              go_roundw
              case rel => exact ⟨k + 1, by go_num, h1, HB9.out⟩
              case measure => simp [intOf]; omega
          · have b13 : (d == 13) = false := by simpa using h13
            obtain ⟨hk1, hv2⟩ := HNX.out rfl h13
            have hk1i : (k : Int) + 1 < (n : Int) := by omega
            have hk1e : ((k : Int) + 1 == (n : Int)) = false := by simp; omega
            have cn := (HB9.out.cell (World.block_lt_of_cell? _ _ (HCF.out (k + 1) hk1))).trans (HCF.out (k + 1) hk1)
            generalize FP.frm t (CP.split t) (k + 1) = v2 at cn hv2
            rcases hv2 with rfl | rfl
            all_goals
              clear HNX HPV HCF
              go_wp2_with fail
              go_roundw
              case rel => exact ⟨k + 1, by go_num, h1, HB9.out⟩
              case measure => simp [intOf]; omega
      · skip
        obtain rfl : F = true := by have := hfz; simp at this; exact this
        go_upto_region 13 with fail
        go_wp2_with fail
        refine (HCA.out _ HB6.out).mono ?_
        rintro e w7 ⟨rfl, hb7⟩
        have HB9 := Lib.hid (bnext HB6.out hb7)
        have cv7 := CV.out w7 HB9.out
        clear hb7 cv c1 HCA hfz
        obtain ⟨hk0, hv0⟩ := HPV.out rfl
        have hj0 : ((k : Int) == 0) = false := by simp; omega
        obtain ⟨j, hji, hjn, hjk⟩ : ∃ j : Nat, (k : Int) - 1 = (j : Int) ∧ j < n ∧ k - 1 = j := ⟨k - 1, by omega, by omega, rfl⟩
        have cp := (HB9.out.cell (World.block_lt_of_cell? _ _ (HCF.out j hjn))).trans (HCF.out j hjn)
        rw [hjk] at hv0
        clear hjk
        generalize FP.frm t (CP.split t) j = v0' at cp hv0
        rcases hv0 with rfl | rfl
        all_goals
          clear HNX HPV HCF
          by_cases hk1 : k + 1 < n
          · have hk1i : (k : Int) + 1 < (n : Int) := by omega
            have hk1e : ((k : Int) + 1 == (n : Int)) = false := by simp; omega
            go_wp2_with fail
            go_roundw
            case rel => exact ⟨k + 1, by go_num, h1, HB9.out⟩
            case measure => simp [intOf]; omega
          · have hk1i : ¬ (k : Int) + 1 < (n : Int) := by omega
            have hk1e : ((k : Int) + 1 == (n : Int)) = true := by simp; omega
            go_wp2_with fail
            go_roundw
            case rel => exact ⟨k + 1, by go_num, h1, HB9.out⟩
            case measure => simp [intOf]; omega
    · obtain rfl : k = n := by omega
      go_wp2_with fail
      go_ret
      exact ⟨rfl, bnext ACC.out hb⟩

set_option maxRecDepth 100000 in
theorem lifted (os : Os) (started : os.Started) (H : Type) (enc : TypeId × Value → H) :
    ReturnsInHanded {} Tryd.checked os 6 .any (fun w args => (Rows.formsNeighboursSpec.pre enc Tryd.prog Tryd.f6 [] false w args ∧ laidMetH Tryd.prog laidL w) ∧ sizedMet enc Tryd.prog Tryd.f6 (OpenSpec.ofChange Rows.formsNeighboursSpec) false w args)
      (Rows.formsNeighboursSpec.post enc Tryd.prog Tryd.f6 false true false false) := by
  refine returnsInHanded_of_change_and (C := Tryd.checked) (X := fun w _ => laidMetH Tryd.prog laidL w) (fun _ _ _ hh h => h.of_heap hh) own started (by kernel_rfl) Tryd.func6
    (ChangeSpec.witness_shaped (enc := enc) (C := Tryd.checked) (os := os) (X := fun w _ => laidMetH Tryd.prog laidL w) false (World.doorLaid Tryd.prog 46 os) #[.slice none 0 0] 8 rfl (World.shaped_of_RefB (by kernel_rfl) (by kernel_rfl)) (by kernel_rfl) (by kernel_rfl) (by kernel_rfl) (door_met os _)) ?_
  intro W base args ds gs before hval0 hW _ _ hL _
  have hval : ∀ (j : Nat) t v, Tryd.f6.params[j]? = some t → args[j]? = some v → Value.okWide Tryd.prog W .any base t v := hval0
  have hW' := hW
  obtain ⟨p, q, hA0, hV, rfl, hfz, hnd⟩ := hW
  have hA : DataW.TrodAll enc Tryd.prog W 0 (fun _ => true) true Tryd.f6.params.toList args.toList ds p := hA0
  rw [Tryd.params6] at hA hval
  obtain ⟨v0, vs0, d0, ds0, p0, q0, hargs, rfl, rfl, h0, r0⟩ := trodAll_cons hA
  obtain ⟨rfl, rfl, rfl⟩ := trodAll_nil r0
  obtain rfl : args = #[v0] := by cases args; simp_all
  obtain ⟨rfl, rfl⟩ := trodVars_none hV
  obtain ⟨g, hlaid⟩ := of_laid hL
  have k0 := h0
  have lt0 : ∀ x ∈ p0, x.block < W.heap.size := by obtain ⟨m, hm⟩ := k0; exact DataW.trod_lt m _ _ _ hm
  obtain ⟨a0, H0, L0, E0⟩ := open_l (hval 0 22 v0 rfl rfl) h0
  clear hA0 hval0
  refine (walk v0 a0 g  W hlaid H0 L0 E0).mono fun e W' ⟨he, bel⟩ => ?_
  subst he
  exact ⟨_, rfl, _, _, _, [], _, [], hW', trodAll_mk1 (shut_bool Tryd.underlying4 _), (trodAll_cons_mk (Below.trod laidOut (by kernel_rfl) (of_decide_eq_true (by kernel_rfl)) k0 bel lt0) trodAll_mk0), rfl, bel.frame _, fun h => by cases h⟩

theorem over : Rows.formsNeighboursRow.holds Tryd.pinned (OpenSpec.ofChange Rows.formsNeighboursSpec) :=
  OpenClaim.holds_of_wide 6 Tryd.f6 rfl rfl rfl rfl rfl rfl rfl ⟨rfl, rfl, rfl, rfl, rfl⟩ rfl rfl rfl rfl rfl (by kernel_rfl) Tryd.func6 (by kernel_rfl)
    (of_decide_eq_true (by kernel_rfl)) (by unfold Func.isWrapper; first | (rw [if_pos (by decide +kernel)]; kernel_rfl) | (rw [if_neg (by decide +kernel)]; exact ⟨rfl, rfl⟩))
    (fun os started H enc _ => lifted os started H enc)

/-- The row's card, tied to the program's text. -/
theorem card : Rows.FormsNeighboursCardSaid :=
  Claim7.holds_tied_plain_at .later [] [.data] true Rows.formsNeighboursCard.stood.harness false
    over (fun _ h => by cases h) (by kernel_rfl) (fun _ h => by cases h) formsNeighbours_row_tie rfl ⟨rfl, rfl⟩ (by kernel_rfl) rfl
    (fun f fn hf hfn => by
      obtain rfl : f = 6 := Option.some.inj ((show Tryd.prog.funcNamed "abugida/abugidalaw17.FormsNeighbours" = some 6 by kernel_rfl).symm.trans hf) |>.symm
      obtain rfl : fn = Tryd.f6 := (Option.some.inj (Tryd.func6.symm.trans hfn)).symm
      exact ⟨by kernel_rfl, fun j t ht => by
        rw [Tryd.params6] at ht
        have hm : t ∈ [22] := by simpa using Array.mem_of_getElem? ht
        have hall : ([22].all fun u => !Tryd.prog.wantsStandIn u) = true := by kernel_rfl
        exact (show Tryd.prog.wantsStandIn t = false by simpa using List.all_eq_true.1 hall t hm)⟩)
    (by kernel_rfl)

end Go.Proofs.YtkacbmimmnlhlaaDoor.formsNeighbours
namespace Go.Proofs.YtkacbmimmnlhlaaDoor
theorem formsNeighbours_proved : Rows.FormsNeighboursCardSaid := formsNeighbours.card
#print axioms formsNeighbours_proved
end Go.Proofs.YtkacbmimmnlhlaaDoor
