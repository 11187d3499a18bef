/- The reference's way of reading a number, of a reader that is not bad. -/
import Derived.Test.YtinkhgmdeldniaaWireQA
namespace Go.Proofs.Ytinkhgmdeldniaa.W
set_option maxRecDepth 100000
set_option linter.unusedVariables false
open Go.RowKit
theorem hor_step (c H d : Nat) (h : c = H % 18446744073709551616) (hd : d < 128) : IntKind.u64.wrap (IntKind.u64.wrap ((c : Int) * 128) + (d : Int)) = (((d + 128 * H) % 18446744073709551616 : Nat) : Int) := by
  have e : ∀ x : Int, IntKind.u64.wrap x = x % 18446744073709551616 := fun x => by
    unfold IntKind.wrap
    simp
    exact if_neg (by simp [show IntKind.u64.signed = false from rfl])
  rw [e, e, h]
  omega
theorem slice_mid (s X : ByteArray) (i j : Int) (h0 : 0 ≤ i) (h1 : i ≤ j) (h2 : j ≤ (s.size : Int)) (hX : s.extract i.toNat j.toNat = X) (V : World) : (Instr.slice 9 (.string s) (some (.int .i64 i)) (some (.int .i64 j)) none).run Try.prog V = .ok (.string X) V := by
  rw [run_slice_string_if V 9 s .i64 .i64 i j Try.underlying9, if_pos ⟨Int.le_trans h0 h1, h2⟩, if_pos ⟨h0, h1⟩, hX]
theorem kpq {w w' : World} {p q : Addr} {a b : Value} (h1 : w.cell? p = some a) (h2 : w.cell? q = some b) (h : Below w.heap.size w w') : Below w.heap.size w w' ∧ w'.cell? p = some a ∧ w'.cell? q = some b :=
  ⟨h, (h.cell (World.block_lt_of_cell? w _ h1)).trans h1, (h.cell (World.block_lt_of_cell? w _ h2)).trans h2⟩
set_option maxRecDepth 100000 in
set_option maxHeartbeats 4000000 in
theorem qread_ok (b : Nat) (r : WP.RS) (w : World) (h : QAt b r w) (hb : r.bad = false) : Calls Try.prog 30 #[.pointer (some ⟨b, 0, none⟩)] w fun e w' => e = .returned (.int .i64 r.int.1) ∧ QAt b r.int.2 w' ∧ Kept b w w' := by
  have HINT := Lib.hid (WP.int_ok hb)
  have hpl := h.2.1
  have hsl := h.2.2
  obtain ⟨m, hmd⟩ : ∃ m, r.s.length - r.p = m := ⟨_, rfl⟩
  have hl : r.left = m := by unfold WP.RS.left; rw [if_neg (by simp [hb]), hmd]
  have HL := Lib.hid fun (V : World) (hV : Below w.heap.size w V) => qleft_q b r V (h.keep hV)
  have HM := Lib.hid fun (V : World) (hV : Below w.heap.size w V) => qleft_any b r V (h.keep hV)
  rw [hl] at HL HM
  have HQ := Lib.hid fun (V : World) (hV : Below w.heap.size w V) => h.keep hV
  obtain ⟨l, hld⟩ : ∃ l, r.s.drop r.p = l := ⟨_, rfl⟩
  have hll : l.length = m := by rw [← hld, List.length_drop, hmd]
  rw [hld, hmd] at HINT
  have HSUB : Hid (∀ k, (WP.S r.s).extract r.p (r.p + k) = WP.S (l.take k)) := Lib.hid fun k => by rw [S_extract, hld]
  have HBY : Hid (∀ i, i < m → ∃ hi : r.p + i < (WP.S r.s).size, ((WP.S r.s)[r.p + i]).toNat = (l.getD i 0).toNat) := Lib.hid fun i hi => by
    have h1 : r.p + i < (WP.S r.s).size := by rw [WP.S_size]; omega
    exact ⟨h1, by rw [WP.S_get _ _ h1, ← hld, WP.getD_dropp]⟩
  have hTs : (WP.S r.s).size = r.p + m := by rw [WP.S_size]; omega
  obtain ⟨c0, c1, c2, cf⟩ := h.cells
  have HCF := Lib.hid cf
  obtain ⟨T, hT⟩ : ∃ T, WP.S r.s = T := ⟨_, rfl⟩
  rw [hT] at c0 HSUB HBY hTs
  have HLD := Lib.hid (WP.lead_at l)
  have HLG := Lib.hid (WP.lead_ge l)
  have HLN := Lib.hid (WP.lead_le l)
  rw [hll] at HLD HLN
  obtain ⟨ld, hlde⟩ : ∃ ld, WP.lead l = ld := ⟨_, rfl⟩
  rw [hlde] at HLD HLG HLN HINT
  have HLL := Lib.hid hll
  have HPM : Hid (r.p + m = r.s.length) := Lib.hid (by omega)
  have HC0 := Lib.hid c0
  have HC1 := Lib.hid c1
  clear hT hld hlde hl hmd hll c2 cf h
  go_enter Try.func30, Try.ntmps30
  go_wp2_with fail
  go_loopw [3] (fun v3 wr => ∃ n : Nat, v3 = .int .i64 n ∧ n ≤ 10 ∧ n ≤ ld ∧ Below w.heap.size w wr) (fun v _ => 10 - (intOf v).toNat)
  case atStart => exact ⟨0, rfl, by omega, Nat.zero_le _, Below.refl _ _⟩
  case round =>
    obtain ⟨n, rfl, hn, hnl, hbw⟩ := hrel
    have c0 := (hbw.cell (World.block_lt_of_cell? _ _ HC0.out)).trans HC0.out
    have c1 := (hbw.cell (World.block_lt_of_cell? _ _ HC1.out)).trans HC1.out
    by_cases h10 : n < 10
    · have d1 : decide ((n : Int) < 10) = true := decide_eq_true (by omega)
      have e10 : ((n : Int) == 10) = false := by simp; omega
      have h10i : (n : Int) < 10 := by omega
      by_cases hm : n < m
      · have d2 : decide ((n : Int) < (m : Int)) = true := decide_eq_true (by omega)
        have d2' : decide (n < m) = true := decide_eq_true hm
        have hmi : (n : Int) < (m : Int) := by omega
        obtain ⟨hi, hby⟩ := HBY.out n hm
        have hb255 : (T[r.p + n].toNat : Int) ≤ 255 := by have := T[r.p + n].toNat_lt; omega
        have s1 : IntKind.i64.wrap ((r.p : Int) + (n : Int)) = (r.p : Int) + (n : Int) := by rw [IntKind.wrap_i64]; omega
        have s2 : (0 : Int) ≤ (r.p : Int) + (n : Int) := by omega
        have s3 : ((r.p : Int) + (n : Int)).toNat = r.p + n := by omega
        have s4 : (r.p : Int) + (n : Int) < (T.size : Int) := by omega
        by_cases h128 : 128 ≤ T[r.p + n].toNat
        · have d3 : decide ((128 : Int) ≤ (T[r.p + n].toNat : Int)) = true := decide_eq_true (by omega)
          have hnx : Hid (n + 1 ≤ ld) := Lib.hid (by
            rcases Nat.lt_or_ge n ld with h | h
            · exact h
            · obtain rfl : n = ld := by omega
              have := HLD.out hm
              omega)
          clear h128 hby hnl
          go_wp2_with fail; go_quiet ((go_at_call 58; exact Calls.quiet_of (HL.out _ (by (repeat' (first | exact Below.refl _ _ | (with_reducible assumption) | (refine bnext ?_ (by with_reducible assumption)) | (refine balloc ?_ _) | (refine below_drewN ?_ _) | (refine Below.drew ?_)))))))
          go_wp2_with fail
          go_roundw
          case rel => exact ⟨n + 1, by go_num, by omega, hnx.out, below_drewN hbw _⟩
          case measure => simp [intOf]; omega
        · have d3 : decide ((128 : Int) ≤ (T[r.p + n].toNat : Int)) = false := decide_eq_false (by omega)
          have hln : Hid (n = ld) := Lib.hid (by
            rcases Nat.lt_or_ge n ld with h | h
            · have := HLG.out n h; omega
            · omega)
          clear h128 hby hnl
          go_wp2_with fail; go_quiet ((go_at_call 58; exact Calls.quiet_of (HL.out _ (by (repeat' (first | exact Below.refl _ _ | (with_reducible assumption) | (refine bnext ?_ (by with_reducible assumption)) | (refine balloc ?_ _) | (refine below_drewN ?_ _) | (refine Below.drew ?_)))))))
          go_wp2_with (go_at_call 58; refine (HM.out _ (by (repeat' (first | exact Below.refl _ _ | (with_reducible assumption) | (refine bnext ?_ (by with_reducible assumption)) | (refine balloc ?_ _) | (refine below_drewN ?_ _) | (refine Below.drew ?_))))).mono ?_; rintro e w5 ⟨rfl, hb5⟩)
          have hb5w : Below w.heap.size w w5 := by (repeat' (first | exact Below.refl _ _ | (with_reducible assumption) | (refine bnext ?_ (by with_reducible assumption)) | (refine balloc ?_ _) | (refine below_drewN ?_ _) | (refine Below.drew ?_)))
          have HINT2 := Lib.hid (by have := HINT.out; rw [← hln.out] at this; exact this)
          have HN := Lib.hid fun j (hj : j < n + 1) => WP.hor_next (l := l) hj (by rw [HLL.out]; exact hm)
          have HSX := Lib.hid (HSUB.out (n + 1))
          clear hln HLD HLG HLN HL HINT HSUB d1 d2 d2' d3 h10i hb5 c0 c1 hbw
          go_loopw [4, 5] (fun v4 v5 wr => ∃ j : Nat, j ≤ n + 1 ∧ v5 = .int .i64 ((j : Int) - 1) ∧ v4 = .int .u64 ((WP.hor ((l.take (n + 1)).drop j) % 18446744073709551616 : Nat) : Int) ∧ Below w.heap.size w wr) (fun _ v => fun _ => (intOf v + 1).toNat)
          case atStart => exact ⟨n + 1, Nat.le_refl _, by go_num, by rw [List.drop_eq_nil_of_le (by rw [List.length_take]; omega)]; rfl, hb5w⟩
          case round =>
            obtain ⟨j, hj, rfl, rfl, hbj⟩ := hrel
            have c0 := (hbj.cell (World.block_lt_of_cell? _ _ HC0.out)).trans HC0.out
            have c1 := (hbj.cell (World.block_lt_of_cell? _ _ HC1.out)).trans HC1.out
            rcases j with _ | j
            · have hC := Nat.mod_lt (WP.hor (l.take (n + 1))) (show 0 < 18446744073709551616 by decide)
              rw [List.drop_zero]
              generalize WP.hor (l.take (n + 1)) % 18446744073709551616 = C at hC HINT2
              have hi1 : ((0 : Nat) : Int) - 1 = -1 := rfl
              rw [hi1]
              have huz := WP.uz_bd hC
              have HI := Lib.hid fun V => rint_any (WP.uz C) V huz.1 huz.2
              rw [show WP.int (WP.uz C) = WP.enc C by unfold WP.int; rw [WP.zz_uz]] at HI
              obtain ⟨Hf, hHf⟩ : ∃ H, C / 2 = H := ⟨_, rfl⟩
              have hH1 : Hf ≤ 9223372036854775807 := by omega
              have q1 : (C : Int) / 2 = (Hf : Int) := by omega
              have q2 : (C : Int).tdiv 2 = (Hf : Int) := by rw [Int.tdiv_eq_ediv_of_nonneg (by omega)]; exact q1
              have a1 : IntKind.i64.wrap ((r.p : Int) + (n : Int)) = (r.p : Int) + (n : Int) := by rw [IntKind.wrap_i64]; omega
              have a2 : IntKind.i64.wrap ((r.p : Int) + (n : Int) + 1) = (r.p : Int) + (n : Int) + 1 := by rw [IntKind.wrap_i64]; omega
              have a3 : (0 : Int) ≤ (r.p : Int) + (n : Int) + 1 := by omega
              have a4 : ((r.p : Int) + (n : Int) + 1).toNat = r.p + (n + 1) := by omega
              have a5 : (r.p : Int) + (n : Int) + 1 ≤ (T.size : Int) := by omega
              have a6 : (r.p : Int) ≤ (r.p : Int) + (n : Int) + 1 := by omega
              have a7 : (0 : Int) ≤ (r.p : Int) := by omega
              have hEX := HSX.out
              obtain ⟨X, hX⟩ : ∃ X, WP.S (l.take (n + 1)) = X := ⟨_, rfl⟩
              obtain ⟨E, hE⟩ : ∃ E, WP.S (WP.enc C) = E := ⟨_, rfl⟩
              rw [hX] at hEX
              have hsl := slice_mid T X (r.p : Int) ((r.p : Int) + (n : Int) + 1) a7 a6 a5 (by rw [a4, Int.toNat_natCast]; exact hEX)
              rw [hE] at HI
              have hEXX : (E.toList == X.toList) = decide (WP.enc C = l.take (n + 1)) := by
                rw [Bool.eq_iff_iff, beq_iff_eq, decide_eq_true_eq, ByteArray.toList_eq, ByteArray.toList_eq]
                refine ⟨fun h => ?_, fun h => by rw [← hE, ← hX, h]⟩
                have : E = X := ByteArray.ext (Array.toList_inj.mp h)
                rw [← hE, ← hX] at this
                exact WP.S_inj this
              have HRES := Lib.hid (show WP.RS.int r = if WP.enc C = l.take (n + 1) then (WP.uz C, { r with p := r.p + (n + 1) }) else (0, r.fail) by
                rw [HINT2.out]
                by_cases he : WP.enc C = l.take (n + 1)
                · rw [if_pos he, if_pos ⟨h10, hm, he⟩]
                · rw [if_neg he, if_neg (fun h => he h.2.2)])
              have HZ : Hid (WP.uz C = if C % 2 = 0 then (Hf : Int) else -(Hf : Int) - 1) := Lib.hid (by unfold WP.uz; rw [hHf])
              have hCM : C % 2 = 0 ∨ C % 2 = 1 := by omega
              clear hHf hX hE HINT2
              rcases hCM with hCM | hCM
              · replace HZ : Hid (WP.uz C = (Hf : Int)) := Lib.hid (by rw [HZ.out]; rw [if_pos hCM])
                rw [HZ.out] at HI HRES
                have p1 : (C : Int) % 2 = 0 := by omega
                have p2 : (C : Int).tmod 2 = 0 := by rw [Int.tmod_eq_emod_of_nonneg (by omega)]; exact p1
                by_cases he : WP.enc C = l.take (n + 1)
                · rw [decide_eq_true he] at hEXX
                  rw [if_pos he] at HRES
                  clear he
                  go_wp2_with fail
                  go_region_held3 (fun w' => Below w.heap.size w w' ∧ w'.cell? ⟨b, 0, none⟩ = some (.string T) ∧ w'.cell? ⟨b, 1, none⟩ = some (.int .i64 (r.p : Int))) ((refine kpq HC0.out HC1.out ?_; (repeat' (first | exact Below.refl _ _ | (with_reducible assumption) | (refine bnext ?_ (by with_reducible assumption)) | (refine balloc ?_ _) | (refine below_drewN ?_ _) | (refine Below.drew ?_))))) ((go_at_call 54; refine (HI.out _).mono ?_; rintro e w7 ⟨rfl, hb7⟩))
                  have hb8 : Below w.heap.size w w7 := (‹Below w.heap.size w w7 ∧ _ ∧ _›).1
                  have hq := HQ.out w7 hb8
                  obtain ⟨e0, e1, e2, ef⟩ := hq.cells
                  have ef1 := ef 1
                  go_wp2_with fail
                  go_ret
                  rw [HRES.out]
                  exact ⟨rfl, hq.setPlace _ (by have := HPM.out; omega) _ (by omega), (Kept.of hb8).trans (Kept.set _ _)⟩
                · rw [decide_eq_false he] at hEXX
                  rw [if_neg he] at HRES
                  have hres := HRES.out
                  clear he
                  go_wp2_with fail
                  go_region_held3 (fun w' => Below w.heap.size w w' ∧ w'.cell? ⟨b, 0, none⟩ = some (.string T) ∧ w'.cell? ⟨b, 1, none⟩ = some (.int .i64 (r.p : Int))) ((refine kpq HC0.out HC1.out ?_; (repeat' (first | exact Below.refl _ _ | (with_reducible assumption) | (refine bnext ?_ (by with_reducible assumption)) | (refine balloc ?_ _) | (refine below_drewN ?_ _) | (refine Below.drew ?_))))) ((go_at_call 54; refine (HI.out _).mono ?_; rintro e w7 ⟨rfl, hb7⟩))
                  have hb8 : Below w.heap.size w w7 := (‹Below w.heap.size w w7 ∧ _ ∧ _›).1
                  go_wp2_with (go_at_call 59; refine (qfail_any b r _ (HQ.out _ hb8)).mono ?_; rintro e w9 ⟨rfl, h9, k9⟩)
                  go_ret
                  rw [hres]
                  exact ⟨rfl, h9, (Kept.of hb8).trans k9⟩
              · replace HZ : Hid (WP.uz C = -(Hf : Int) - 1) := Lib.hid (by rw [HZ.out]; rw [if_neg (by omega)])
                rw [HZ.out] at HI HRES
                have p1 : (C : Int) % 2 = 1 := by omega
                have p2 : (C : Int).tmod 2 = 1 := by rw [Int.tmod_eq_emod_of_nonneg (by omega)]; exact p1
                have n1 : (-(Hf : Int)) ≤ 0 := by omega
                have n2 : -9223372036854775807 ≤ (-(Hf : Int)) := by omega
                by_cases he : WP.enc C = l.take (n + 1)
                · rw [decide_eq_true he] at hEXX
                  rw [if_pos he] at HRES
                  clear he
                  go_wp2_with fail
                  go_region_held3 (fun w' => Below w.heap.size w w' ∧ w'.cell? ⟨b, 0, none⟩ = some (.string T) ∧ w'.cell? ⟨b, 1, none⟩ = some (.int .i64 (r.p : Int))) ((refine kpq HC0.out HC1.out ?_; (repeat' (first | exact Below.refl _ _ | (with_reducible assumption) | (refine bnext ?_ (by with_reducible assumption)) | (refine balloc ?_ _) | (refine below_drewN ?_ _) | (refine Below.drew ?_))))) ((go_at_call 54; refine (HI.out _).mono ?_; rintro e w7 ⟨rfl, hb7⟩))
                  have hb8 : Below w.heap.size w w7 := (‹Below w.heap.size w w7 ∧ _ ∧ _›).1
                  have hq := HQ.out w7 hb8
                  obtain ⟨e0, e1, e2, ef⟩ := hq.cells
                  have ef1 := ef 1
                  go_wp2_with fail
                  go_ret
                  rw [HRES.out]
                  exact ⟨rfl, hq.setPlace _ (by have := HPM.out; omega) _ (by omega), (Kept.of hb8).trans (Kept.set _ _)⟩
                · rw [decide_eq_false he] at hEXX
                  rw [if_neg he] at HRES
                  have hres := HRES.out
                  clear he
                  go_wp2_with fail
                  go_region_held3 (fun w' => Below w.heap.size w w' ∧ w'.cell? ⟨b, 0, none⟩ = some (.string T) ∧ w'.cell? ⟨b, 1, none⟩ = some (.int .i64 (r.p : Int))) ((refine kpq HC0.out HC1.out ?_; (repeat' (first | exact Below.refl _ _ | (with_reducible assumption) | (refine bnext ?_ (by with_reducible assumption)) | (refine balloc ?_ _) | (refine below_drewN ?_ _) | (refine Below.drew ?_))))) ((go_at_call 54; refine (HI.out _).mono ?_; rintro e w7 ⟨rfl, hb7⟩))
                  have hb8 : Below w.heap.size w w7 := (‹Below w.heap.size w w7 ∧ _ ∧ _›).1
                  go_wp2_with (go_at_call 59; refine (qfail_any b r _ (HQ.out _ hb8)).mono ?_; rintro e w9 ⟨rfl, h9, k9⟩)
                  go_ret
                  rw [hres]
                  exact ⟨rfl, h9, (Kept.of hb8).trans k9⟩
            · have hjm : j < m := by omega
              obtain ⟨hi, hby⟩ := HBY.out j hjm
              have hb255 : (T[r.p + j].toNat : Int) ≤ 255 := by have := T[r.p + j].toNat_lt; omega
              have hnx := HN.out j (by omega)
              rw [← hby] at hnx
              obtain ⟨d, hd⟩ : ∃ d, T[r.p + j].toNat % 128 = d := ⟨_, rfl⟩
              have hd128 : d < 128 := by omega
              have hdm : (T[r.p + j].toNat : Int) % 128 = (d : Int) := by omega
              have hdt : (T[r.p + j].toNat : Int).tmod 128 = (d : Int) := by rw [Int.tmod_eq_emod_of_nonneg (by omega)]; exact hdm
              rw [hd] at hnx
              have hj1 : (((j + 1 : Nat) : Int)) - 1 = (j : Int) := by omega
              rw [hj1]
              obtain ⟨c, hc⟩ : ∃ c, WP.hor ((l.take (n + 1)).drop (j + 1)) % 18446744073709551616 = c := ⟨_, rfl⟩
              have HSTEP := Lib.hid (hor_step c _ d hc.symm hd128)
              rw [← hnx] at HSTEP
              have hc64 : c < 18446744073709551616 := by rw [← hc]; exact Nat.mod_lt _ (by decide)
              rw [hc]
              have s1j : IntKind.i64.wrap ((r.p : Int) + (j : Int)) = (r.p : Int) + (j : Int) := by rw [IntKind.wrap_i64]; omega
              have s2j : (0 : Int) ≤ (r.p : Int) + (j : Int) := by omega
              have s3j : ((r.p : Int) + (j : Int)).toNat = r.p + j := by omega
              have s4j : (r.p : Int) + (j : Int) < (T.size : Int) := by omega
              clear hc hnx hby hd hj1
              go_wp2_with fail
              go_quiet (fail)
              go_wp2_with fail
              go_roundw
              case rel => exact ⟨j, by omega, rfl, by rw [HSTEP.out], below_drewN hbj _⟩
              case measure => simp [intOf]
      · have d2 : decide ((n : Int) < (m : Int)) = false := decide_eq_false (by omega)
        have d2' : decide (n < m) = false := decide_eq_false hm
        have hmi : ¬ (n : Int) < (m : Int) := by omega
        have hres : WP.RS.int r = (0, r.fail) := by rw [HINT.out, if_neg]; intro hc; have := HLN.out; omega
        go_wp2_with fail; go_quiet ((go_at_call 58; exact Calls.quiet_of (HL.out _ (by (repeat' (first | exact Below.refl _ _ | (with_reducible assumption) | (refine bnext ?_ (by with_reducible assumption)) | (refine balloc ?_ _) | (refine below_drewN ?_ _) | (refine Below.drew ?_)))))))
        go_wp2_with (first | (go_at_call 58; refine (HM.out _ (by (repeat' (first | exact Below.refl _ _ | (with_reducible assumption) | (refine bnext ?_ (by with_reducible assumption)) | (refine balloc ?_ _) | (refine below_drewN ?_ _) | (refine Below.drew ?_))))).mono ?_; rintro e w5 ⟨rfl, hb5⟩) | (go_at_call 59; refine (qfail_any b r _ (HQ.out _ (by (repeat' (first | exact Below.refl _ _ | (with_reducible assumption) | (refine bnext ?_ (by with_reducible assumption)) | (refine balloc ?_ _) | (refine below_drewN ?_ _) | (refine Below.drew ?_)))))).mono ?_; rintro e w6 ⟨rfl, h6, k6⟩))
        go_ret
        rw [hres]
        exact ⟨rfl, h6, (Kept.of (by (repeat' (first | exact Below.refl _ _ | (with_reducible assumption) | (refine bnext ?_ (by with_reducible assumption)) | (refine balloc ?_ _) | (refine below_drewN ?_ _) | (refine Below.drew ?_))))).trans k6⟩
    · obtain rfl : n = 10 := by omega
      have hres : WP.RS.int r = (0, r.fail) := by rw [HINT.out, if_neg]; intro hc; omega
      go_wp2_with fail; go_quiet ((go_at_call 58; exact Calls.quiet_of (HL.out _ (by (repeat' (first | exact Below.refl _ _ | (with_reducible assumption) | (refine bnext ?_ (by with_reducible assumption)) | (refine balloc ?_ _) | (refine below_drewN ?_ _) | (refine Below.drew ?_)))))))
      go_wp2_with (first | (go_at_call 58; refine (HM.out _ (by (repeat' (first | exact Below.refl _ _ | (with_reducible assumption) | (refine bnext ?_ (by with_reducible assumption)) | (refine balloc ?_ _) | (refine below_drewN ?_ _) | (refine Below.drew ?_))))).mono ?_; rintro e w5 ⟨rfl, hb5⟩) | (go_at_call 59; refine (qfail_any b r _ (HQ.out _ (by (repeat' (first | exact Below.refl _ _ | (with_reducible assumption) | (refine bnext ?_ (by with_reducible assumption)) | (refine balloc ?_ _) | (refine below_drewN ?_ _) | (refine Below.drew ?_)))))).mono ?_; rintro e w6 ⟨rfl, h6, k6⟩))
      go_ret
      rw [hres]
      exact ⟨rfl, h6, (Kept.of (by (repeat' (first | exact Below.refl _ _ | (with_reducible assumption) | (refine bnext ?_ (by with_reducible assumption)) | (refine balloc ?_ _) | (refine below_drewN ?_ _) | (refine Below.drew ?_))))).trans k6⟩
set_option maxRecDepth 100000 in
set_option maxHeartbeats 1000000 in
theorem qread_any (b : Nat) (r : WP.RS) (w : World) (h : QAt b r w) : Calls Try.prog 30 #[.pointer (some ⟨b, 0, none⟩)] w fun e w' => e = .returned (.int .i64 r.int.1) ∧ QAt b r.int.2 w' ∧ Kept b w w' := by
  cases hb : r.bad with
  | true =>
    have hr : WP.RS.int r = (0, r) := by rw [WP.RS.int, if_pos hb]
    rw [hr]
    exact qread_bad b r w h hb
  | false => exact qread_ok b r w h hb
end Go.Proofs.Ytinkhgmdeldniaa.W
