/- The reference's digits. No conditions. -/
import Derived.Test.YtinkhgmdeldniaaSgnPub
namespace Go.Proofs.Ytinkhgmdeldniaa.SG
set_option maxRecDepth 100000
open Go.RowKit
/-- The two digits of a byte. -/
def two (c : UInt8) : List Int := [((c.toNat / 16 : Nat) : Int), ((c.toNat % 16 : Nat) : Int)]
/-- The digits of the first k bytes, and what is left of 240. -/
def dgs (l : List UInt8) : List Int := l.flatMap two
def rest (l : List UInt8) : Int := 240 - (dgs l).sum
def digits (msg : ByteArray) : List Int := dgs (DG.Of msg).data.toList ++ [rest (DG.Of msg).data.toList / 16, rest (DG.Of msg).data.toList % 16]
theorem dgs_snoc (l : List UInt8) (c : UInt8) : dgs (l ++ [c]) = dgs l ++ two c := by simp [dgs]
theorem dgs_len (l : List UInt8) : (dgs l).length = 2 * l.length := by
  induction l with
  | nil => rfl
  | cons c l ih => simp only [dgs, List.flatMap_cons, List.length_append] at ih ⊢; rw [ih]; simp [two]; omega
theorem rest_snoc (l : List UInt8) (c : UInt8) : rest (l ++ [c]) = rest l - ((c.toNat / 16 : Nat) : Int) - ((c.toNat % 16 : Nat) : Int) := by
  unfold rest
  rw [dgs_snoc, List.sum_append]
  simp [two]
  omega
theorem rest_bd (l : List UInt8) : 240 - 30 * (l.length : Int) ≤ rest l ∧ rest l ≤ 240 := by
  unfold rest
  have : 0 ≤ (dgs l).sum ∧ (dgs l).sum ≤ 30 * (l.length : Int) := by
    induction l with
    | nil => simp [dgs]
    | cons c l ih =>
      have e : (dgs (c :: l)).sum = ((c.toNat / 16 : Nat) : Int) + ((c.toNat % 16 : Nat) : Int) + (dgs l).sum := by simp [dgs, two]; omega
      rw [e]
      have := c.toNat_lt
      simp only [List.length_cons]
      omega
  omega
end Go.Proofs.Ytinkhgmdeldniaa.SG
namespace Go.Proofs.Ytinkhgmdeldniaa
set_option maxRecDepth 100000
set_option linter.unusedVariables false
open Go.RowKit
theorem src_two {w : World} {b : Nat} {u v : Value} (h0 : w.cell? ⟨b, 0, none⟩ = some u) (h1 : w.cell? ⟨b, 1, none⟩ = some v) : Src w (.slice (some ⟨b, 0, none⟩) 2 2) [u, v] :=
  ⟨_, 2, rfl, .inr ⟨b, 0, rfl, World.block_lt_of_cell? w ⟨b, 0, none⟩ h0, fun i hi => by
    match i, hi with
    | 0, _ => simpa using h0
    | 1, _ => simpa using h1⟩⟩
set_option maxHeartbeats 4000000 in
theorem rdigits_any (msg : ByteArray) (w : World) (hs : msg.size ≤ 1000000) : Calls Try.prog 24 #[.string msg] w fun e w' => ∃ v, e = .returned v ∧ w'.ownsRow w.heap.size 3 1 v 18 ((SG.digits msg).map (Value.int .i64)) ∧ Below w.heap.size w w' := by
  obtain ⟨i0, hif, hz0, hz1, hz2⟩ := info_parts info_int
  have HO := Lib.hid (fun V => rOf_any msg V (by unfold maxLen; omega))
  obtain ⟨d, hd⟩ : ∃ d, DG.Of msg = d := ⟨_, rfl⟩
  have hd8 : d.size = 8 := by rw [← hd]; rfl
  have HDG : Hid (SG.digits msg = SG.dgs d.data.toList ++ [SG.rest d.data.toList / 16, SG.rest d.data.toList % 16]) := Lib.hid (by unfold SG.digits; rw [hd])
  rw [hd] at HO
  have hl8 : d.data.toList.length = 8 := by rw [Array.length_toList]; exact hd8
  obtain ⟨l, hl⟩ : ∃ l, d.data.toList = l := ⟨_, rfl⟩
  rw [hl] at hl8 HDG
  have HL8 := Lib.hid hl8
  have HL := Lib.hid hl
  have HSZ := Lib.hid hd8
  clear hd hl hl8 hs
  go_enter Try.func24, Try.ntmps24
  go_wp2_with fail
  refine (HO.out _).mono ?_
  rintro e w1 ⟨rfl, k1⟩
  have HK1 := Lib.hid k1
  clear k1
  go_wp2
  go_loopw [4, 5, 6] (fun v4 v5 v6 wr => ∃ k : Nat, wr.ownsRow w1.heap.size 3 1 v4 (2 * k) ((SG.dgs (l.take k)).map (Value.int .i64)) ∧ v5 = .int .i64 (SG.rest (l.take k)) ∧ v6 = .int .i64 (k : Int) ∧ k ≤ 8 ∧ Below w1.heap.size w1 wr) (fun _ _ v _ => 8 - (intOf v).toNat)
  case atStart => exact ⟨0, World.ownsRow_nil _ _ _ _, rfl, rfl, Nat.zero_le _, Below.refl _ _⟩
  case round =>
    obtain ⟨k, hrow, rfl, rfl, hk, hb⟩ := hrel
    obtain ⟨va, vc, rfl⟩ := own_shape hrow
    have hrb := SG.rest_bd (l.take k)
    have hrl : (l.take k).length ≤ 8 := by rw [List.length_take]; omega
    obtain ⟨R, hR⟩ : ∃ R, SG.rest (l.take k) = R := ⟨_, rfl⟩
    rw [hR] at hrb ⊢
    have hrb1 : 0 ≤ R ∧ R ≤ 240 := by omega
    have HROW := Lib.hid hrow
    have HB := Lib.hid hb
    have hbs := hb.size
    have HR := Lib.hid hR
    clear hrow hb hrb hrl hR
    by_cases hk8 : k < 8
    · have hki : (k : Int) < 8 := by omega
      have hk0 : (0 : Int) ≤ (k : Int) := by omega
      have hkt : ((k : Int)).toNat = k := by omega
      have hdz : (d.size : Int) = 8 := by have := HSZ.out; omega
      have hkd : k < d.size := by have := HSZ.out; omega
      obtain ⟨n, hn⟩ : ∃ n, d[k].toNat = n := ⟨_, rfl⟩
      have hn2 : n < 256 := by rw [← hn]; exact d[k].toNat_lt
      obtain ⟨q, hq⟩ : ∃ q, n / 16 = q := ⟨_, rfl⟩
      obtain ⟨r, hr⟩ : ∃ r, n % 16 = r := ⟨_, rfl⟩
      have hsn : l.take (k + 1) = l.take k ++ [d[k]] := by rw [← HL.out, DG.take_snoc d hkd]
      have HD1 : Hid (SG.dgs (l.take (k + 1)) = SG.dgs (l.take k) ++ [(q : Int), (r : Int)]) := Lib.hid (by rw [hsn, SG.dgs_snoc, SG.two, hn, hq, hr])
      have HR1 : Hid (SG.rest (l.take (k + 1)) = R - (q : Int) - (r : Int)) := Lib.hid (by rw [hsn, SG.rest_snoc, HR.out, hn, hq, hr])
      have hq15 : q ≤ 15 := by omega
      have hr15 : r ≤ 15 := by omega
      have e1 : (n : Int).tdiv 16 = (q : Int) := by rw [Int.tdiv_eq_ediv_of_nonneg (by omega)]; omega
      have e2 : (n : Int).tmod 16 = (r : Int) := by rw [Int.tmod_eq_emod_of_nonneg (by omega)]; omega
      have e3 : IntKind.i64.wrap (n : Int) = (n : Int) := by rw [IntKind.wrap_i64]; omega
      have e4 : IntKind.i64.wrap (q : Int) = (q : Int) := by rw [IntKind.wrap_i64]; omega
      have e5 : IntKind.i64.wrap (r : Int) = (r : Int) := by rw [IntKind.wrap_i64]; omega
      have e6 : IntKind.i64.wrap (R - (q : Int)) = R - (q : Int) := by rw [IntKind.wrap_i64]; omega
      have e7 : IntKind.i64.wrap (R - (q : Int) - (r : Int)) = R - (q : Int) - (r : Int) := by rw [IntKind.wrap_i64]; omega
      clear hsn hq hr
      go_wp2_with fail
      go_region_held3 (fun _ => True)
        (trivial)
        ((refine step_append_lies _ (by rfl) _ _ _ (by rfl) w1.heap.size 3 i0 _ 1 8 Try.underlying25 hif hz0 hz1 hz2 rfl (by omega) (.slice va (2 * k) vc) _ _ (by rfl) ((HROW.out.alloc _).drew)
            ⟨wr.heap.size, 0, none⟩ 2 2 [.int .i64 (q : Int), .int .i64 (r : Int)] (by rfl) (by rfl) (World.news_of_block (cs := #[.int .i64 (q : Int), .int .i64 (r : Int)]) (t := 3) (fr := (0, 0)) (heap_alloc_new wr _)) (by simp [Value.oneCell'])
            (by omega) (by unfold maxLen; omega) (by omega) (by simp; omega) (wr.heap.size + 1) (by simp) ?_; intro gg cap' w2 hown1 hgrow hat hlt))
      all_goals
        have hB : Below w1.heap.size w1 w2 := by
          have h0 : Below w1.heap.size w1 ((wr.alloc (.cells #[.int .i64 (q : Int), .int .i64 (r : Int)] 3)).drew) := ((HB.out.alloc hbs _).drew)
          exact h0.grown hgrow (by simp; omega) (fun j hj => (HROW.out.lt j hj).1)
        have HB2 := Lib.hid hB
        have HO2 := Lib.hid hown1
        clear hgrow hat hlt hB hown1
        go_wp2_with fail
        go_quiet (fail)
        go_wp2
        case roundEnd =>
          have hb2 := HB2.out
          exact ⟨⟨k + 1, by rw [HD1.out, List.map_append, show 2 * (k + 1) = 2 * k + 2 by omega]; exact own_kept HO2.out (by (repeat' (first | exact Below.refl _ _ | (with_reducible assumption) | (refine bnext ?_ (by with_reducible assumption)) | (refine balloc ?_ _) | (refine below_drewN ?_ _) | (refine Below.drew ?_)))), by rw [HR1.out], by go_num, by omega, by (repeat' (first | exact Below.refl _ _ | (with_reducible assumption) | (refine bnext ?_ (by with_reducible assumption)) | (refine balloc ?_ _) | (refine below_drewN ?_ _) | (refine Below.drew ?_)))⟩, by simp [intOf]; omega⟩
    · have hki : ¬ (k : Int) < 8 := by omega
      obtain rfl : k = 8 := by omega
      have hdz : (d.size : Int) = 8 := by have := HSZ.out; omega
      have hall : l.take 8 = l := List.take_of_length_le (by rw [HL8.out]; exact Nat.le_refl _)
      rw [hall] at HROW HR
      obtain ⟨q, hq⟩ : ∃ q : Nat, R / 16 = (q : Int) := ⟨(R / 16).toNat, by omega⟩
      obtain ⟨r, hr⟩ : ∃ r : Nat, R % 16 = (r : Int) := ⟨(R % 16).toNat, by omega⟩
      have HDG2 : Hid (SG.digits msg = SG.dgs l ++ [(q : Int), (r : Int)]) := Lib.hid (by rw [HDG.out, HR.out, hq, hr])
      have e1 : R.tdiv 16 = (q : Int) := by rw [Int.tdiv_eq_ediv_of_nonneg (by omega)]; exact hq
      have e2 : R.tmod 16 = (r : Int) := by rw [Int.tmod_eq_emod_of_nonneg (by omega)]; exact hr
      have hq16 : q ≤ 15 := by omega
      have hr16 : r ≤ 15 := by omega
      have e4 : IntKind.i64.wrap (q : Int) = (q : Int) := by rw [IntKind.wrap_i64]; omega
      clear hall hq hr
      go_wp2_with (at_builtin; refine wpList_app _ rfl _ _ 25 rfl w1.heap.size 3 i0 (.int .i64 0) 8 Try.underlying25 hif hz0 hz1 hz2 rfl _ _ _ rfl (HROW.out.alloc _) _ [.int .i64 (q : Int), .int .i64 (r : Int)] rfl (src_two (World.cell?_alloc_at _ _ _ _ rfl) (World.cell?_alloc_at _ _ _ _ rfl)) (by simp [Value.oneCell']) ?d1 ?d2 ?d3 ?_)
      try case d1 => (try unfold maxLen); (try simp only [List.length_cons, List.length_nil]); omega
      try case d2 => (try simp only [List.length_cons, List.length_nil]); omega
      case d3 => (try simp); omega
      intro v7 w7 hown7 hgrow7 _
      have HB7 : Hid (Below w1.heap.size w1 w7) := Lib.hid ((HB.out.alloc hbs _).grown hgrow7 (by simp; omega) (fun k e => (HROW.out.lt k e).1))
      have HO7 := Lib.hid hown7
      clear hown7 hgrow7
      go_wp2
      go_ret
      have hk1 := HK1.out
      refine ⟨_, rfl, ?_, bnext hk1 HB7.out⟩
      rw [HDG2.out, List.map_append]
      exact own_base HO7.out hk1.size
end Go.Proofs.Ytinkhgmdeldniaa
