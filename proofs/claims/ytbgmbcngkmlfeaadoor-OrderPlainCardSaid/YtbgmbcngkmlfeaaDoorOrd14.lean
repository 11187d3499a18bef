/- The visual order of the program. No conditions. -/
import Derived.Test.YtbgmbcngkmlfeaaDoorOrd13
namespace Go.Proofs.YtbgmbcngkmlfeaaDoor
set_option maxRecDepth 100000
set_option linter.unusedVariables false
open Go.RowKit Go.Shelf Go.Deep
attribute [local go_sem] Oper.semAt_some
def cellNat (v : Value) (w : World) : Nat := match v with
  | .pointer (some p) => match w.cell? p with
    | some u => (intOf u).toNat
    | none => 0
  | _ => 0
theorem cellNat_int {p : Addr} {w : World} {n : Nat} (h : w.cell? p = some (.int .i64 (n : Int))) : cellNat (.pointer (some p)) w = n := by
  simp [cellNat, h, intOf]
theorem own_cells {w w' : World} {B e k n : Nat} {v : Value} {xs : List Value} (h : w.ownsRow B e k v n xs) (hc : ∀ (b : Nat) (cs : Array Value) (t : TypeId) (fr : Nat × Nat), w.heap[b]? = some (Obj.cells cs t fr) → w'.heap[b]? = some (Obj.cells cs t fr)) : w'.ownsRow B e k v n xs := by
  refine ⟨h.1, ?_⟩
  rcases h.2 with h1 | ⟨g, cap, cur, rfl, hb, hg, rest⟩
  · exact .inl h1
  · exact .inr ⟨g, cap, cur, rfl, hb, hc _ _ _ _ hg, rest⟩
def BdV (K : List Int) (p : Int → Bool) (e : Nat) : Prop := 0 < e → ∀ y z, K[e]? = some y → K[e - 1]? = some z → p z ≠ p y
theorem BdV.next {K : List Int} {p : Int → Bool} {n : Nat} {pre : List PcV} {x : PcV} {W : World} (h : PcGV n K p pre x W) : BdV K p x.2.1 := fun h0 y z hy hz e => by
  obtain ⟨h1, h2, h3, h4, h5⟩ := h
  have h6 := h4 (x.2.1 - 1) z (by omega) (by omega) hz
  exact h5 y hy (by rw [← e, h6])
set_option maxHeartbeats 16000000 in
theorem ovisual_in (m : Nat) (hm : 3 ≤ m) (L : List Int) (v : Value) (w : World) (hv : RowAt w v (L.map (Value.int .i64))) (hl : L.length ≤ 1000000000) :
    CallsIn Fence.wide m Tryd.prog 24 #[v] w fun e W' => ∃ v', e = .returned v' ∧ W'.ownsRow w.heap.size 3 1 v' L.length ((OP.ints (OP.vis L)).map (Value.int .i64)) ∧ Below w.heap.size w W' := by
  have h1 : 1 ≤ m := by omega
  have HV : Hid (∀ V, Below w.heap.size w V → RowAt V v (L.map (Value.int .i64))) := Lib.hid fun V hV => hv.keep hV
  obtain ⟨ka, kc, rfl, -⟩ := hv.out
  rw [List.length_map] at HV ⊢
  obtain ⟨N, hN⟩ : ∃ N, L.length = N := ⟨_, rfl⟩
  have HLN := Lib.hid hN
  rw [hN] at hl HV ⊢
  clear hv hN
  obtain ⟨B, hB⟩ : ∃ B, w.heap.size = B := ⟨_, rfl⟩
  have c1 := heap_alloc_new w (.cells #[.slice ka N kc] 26)
  obtain ⟨W0, hW0⟩ : ∃ W0, w.alloc (.cells #[.slice ka N kc] 26) = W0 := ⟨_, rfl⟩
  have hb0 : Below w.heap.size w W0 := by rw [← hW0]; exact balloc (Below.refl _ _) _
  have hs0 : W0.heap.size = B + 1 := by rw [← hW0, ← hB]; simp
  rw [hW0, hB] at c1
  obtain ⟨w1, hmk, hown, hb1, hw1⟩ := make_ints W0 N W0.heap.size (Nat.le_refl _) hl
  have c11 := (hb1.block B (by omega)).trans c1
  have HB := Lib.hid hB
  have c1c : W0.cell? ⟨B, 0, none⟩ = some (.slice ka N kc) := by simp [World.cell?, c1]
  refine callsIn_of_wp_marks Tryd.func24 rfl trivial ?_ rfl
  simp only [Tryd.ntmps24, List.size_toArray, List.length_cons, List.length_nil, Nat.reduceAdd, Nat.reduceSub, Array.replicate_succ, Array.replicate_zero, List.push_toArray, List.append_toArray, List.nil_append, List.cons_append]
  gi_upto_region 1 with fail
  try rw [hW0]
  try rw [hB]
  clear hW0 hB c1
  gi_upto_region 2 with fail
  try rw [hs0]
  rw [hs0] at hown
  have hown' := hown
  obtain ⟨C, hC⟩ : ∃ C, w1.heap.size = C := ⟨_, rfl⟩
  have c3 := heap_alloc_new w1 (.cells #[(.slice (some ⟨B + 1, 0, none⟩) N N)] 26)
  obtain ⟨W2, hW2⟩ : ∃ W2, w1.alloc (.cells #[(.slice (some ⟨B + 1, 0, none⟩) N N)] 26) = W2 := ⟨_, rfl⟩
  have hb2 : Below w1.heap.size w1 W2 := by rw [← hW2]; exact balloc (Below.refl _ _) _
  have hs2 : W2.heap.size = C + 1 := by rw [← hW2, ← hC]; simp
  rw [hW2, hC] at c3
  try rw [hW2]
  try rw [hC]
  have hBC : B + 1 < C := by rw [← hC]; omega
  have c12 := (hb2.block B (by omega)).trans c11
  have HO2 := Lib.hid (own_below hown hb2)
  have HB2 := Lib.hid (bnext (bnext hb0 hb1) hb2)
  have HX : Hid (∀ V, KpR (.slice (some ⟨B + 1, 0, none⟩) N N) W2 V → V.cell? ⟨B, 0, none⟩ = some (.slice ka N kc) ∧ V.cell? ⟨C, 0, none⟩ = some ((.slice (some ⟨B + 1, 0, none⟩) N N))) := Lib.hid fun V hV =>
    ⟨hV.cell (by simp [World.cell?, c12]) (fun e => by simp [Value.ownBlock] at e), hV.cell (by simp [World.cell?, c3]) (fun e => by simp [Value.ownBlock] at e; omega)⟩
  obtain ⟨x1, x3⟩ := HX.out W2 (KpR.refl _ _)
  clear hown hown' hW2 c3 c12 c11 hb2 hmk c1c hC hb0 hb1 hw1
  gi_wp2
  clear x1 x3
  gi_loopw [14] (fun v14 wr => ∃ k : Nat, v14 = .int .i64 (k : Int) ∧ k ≤ N ∧ wr.ownsRow (B + 1) 3 1 (.slice (some ⟨B + 1, 0, none⟩) N N) N ((OP.ints (List.range k) ++ List.replicate (N - k) 0).map (Value.int .i64)) ∧ KpR (.slice (some ⟨B + 1, 0, none⟩) N N) W2 wr ∧ Below w.heap.size w wr) (fun v _ => N - (intOf v).toNat)
  case atStart => exact ⟨0, rfl, Nat.zero_le _, by simpa [OP.ints] using HO2.out, KpR.refl _ _, HB2.out⟩
  case round =>
    obtain ⟨k, rfl, hk, hrow, hkp, hb⟩ := hrel
    obtain ⟨x1, x3⟩ := HX.out wr hkp
    by_cases h1k : k < N
    · have h1i : (k : Int) < (N : Int) := by omega
      have hk0 : (0 : Int) ≤ (k : Int) := by omega
      have hlk : (OP.ints (List.range k)).length = k := by simp [OP.ints]
      have hrep : List.replicate (N - k) (0 : Int) = 0 :: List.replicate (N - (k + 1)) 0 := by rw [← List.replicate_succ]; congr 1; omega
      have hh : OP.ints (List.range (k + 1)) = OP.ints (List.range k) ++ [(k : Int)] := by simp [OP.ints, List.range_succ]
      rw [hrep] at hrow
      have HH := Lib.hid hh
      have HK := Lib.hid hlk
      generalize OP.ints (List.range k) = A at hrow HH HK
      generalize hR : List.replicate (N - (k + 1)) (0 : Int) = R at hrow
      have HR := Lib.hid hR
      have hcell := hrow.cellAt k (by omega)
      have hfr := hrow.frozenAt k
      obtain ⟨hst, hgr⟩ := hrow.stored k (.int .i64 (k : Int))
      rw [show ((A ++ 0 :: R).map (Value.int .i64))[k]? = some (.int .i64 0) by rw [← HK.out]; simp] at hcell
      have HST := Lib.hid hst
      have HK2 := Lib.hid (hkp.row hgr)
      have HB3 := Lib.hid (bset hb (p := ⟨B + 1, k, none⟩) (by show w.heap.size ≤ B + 1; rw [HB.out]; omega) (.int .i64 (k : Int)))
      clear hst hgr hrow hkp hb hR hh hlk hrep
      gi_wp2
      go_roundw
      case rel =>
        refine ⟨k + 1, by go_num, h1k, ?_, HK2.out, HB3.out⟩
        have h2 := HST.out
        have h3 := set_mid A R 0 (k : Int)
        rw [HK.out] at h3
        rw [h3] at h2
        rw [HH.out, HR.out]
        exact h2
      case measure => simp [intOf]; omega
    · obtain rfl : N = k := by omega
      rw [Nat.sub_self, List.replicate_zero, List.append_nil] at hrow
      have HROW := Lib.hid hrow
      have HKP := Lib.hid hkp
      have HBW := Lib.hid hb
      clear hrow hkp hb
      gi_wp2
      obtain ⟨D, hD⟩ : ∃ D, wr.heap.size = D := ⟨_, rfl⟩
      have c5 := heap_alloc_new wr (.cells #[.int .i64 9] 3)
      obtain ⟨W3, hW3⟩ : ∃ W3, wr.alloc (.cells #[.int .i64 9] 3) = W3 := ⟨_, rfl⟩
      have hb3 : Below wr.heap.size wr W3 := by rw [← hW3]; exact balloc (Below.refl _ _) _
      rw [hW3, hD] at c5
      rw [hW3]
      try rw [hD]
      have hDC : C < D := by have := HKP.out.1; omega
      have HO3 := Lib.hid (own_below HROW.out hb3)
      have HK3 := Lib.hid (HKP.out.below hb3)
      have HB3 := Lib.hid (bnext HBW.out hb3)
      have HC5 := Lib.hid c5
      clear hW3 hD hb3 c5 HROW HKP HBW
      refine wpIn_loop (fun a' w' => ∃ (nn Bn : Nat) (l : List Nat) (Ds : List Nat) (x4 x6 x7 x8 x16 x17 x18 x19 x20 x21 x22 x23 x24 x25 x26 x27 x28 x29 x30 x31 x32 x33 x34 x35 x36 x37 x38 x39 x40 x41 : Value), w'.heap[Bn]? = some (.cells #[.int .i64 (nn : Int)] 3 (0, 0)) ∧ C < Bn ∧ nn ≤ 9 ∧ Hid (OP.visF L nn l = OP.vis L) ∧ Hid (l.Perm (List.range N)) ∧ w'.ownsRow (B + 1) 3 1 (.slice (some ⟨B + 1, 0, none⟩) N N) N ((OP.ints l).map (Value.int .i64)) ∧ KpR (.slice (some ⟨B + 1, 0, none⟩) N N) W2 w' ∧ Below w.heap.size w w' ∧ Marks W2.heap.size Ds w' ∧ a' = { tmps := #[.slice ka N kc, .pointer (some ⟨B, 0, none⟩), .slice none 0 0, .pointer (some ⟨C, 0, none⟩), x4, .pointer (some ⟨Bn, 0, none⟩), x6, x7, x8, .slice ka N kc, .int .i64 (N : Int), (.slice (some ⟨B + 1, 0, none⟩) N N), (.slice (some ⟨B + 1, 0, none⟩) N N), .int .i64 (N : Int), .int .i64 (N : Int), .bool false, x16, x17, x18, x19, x20, x21, x22, x23, x24, x25, x26, x27, x28, x29, x30, x31, x32, x33, x34, x35, x36, x37, x38, x39, x40, x41], defers := Ds.map mark })
        (fun a' w' => cellNat (a'.tmps.getD 5 undef) w') ?_ ?_
      · exact ⟨9, D, List.range N, [], u4, undef, undef, undef, u16, u17, u18, u19, u20, u21, undef, undef, undef, undef, undef, undef, undef, undef, undef, undef, undef, undef, undef, undef, undef, undef, undef, undef, undef, undef, HC5.out, hDC, Nat.le_refl _, Lib.hid (by rw [OP.vis, HLN.out]), Lib.hid (List.Perm.refl _), HO3.out, HK3.out, HB3.out, ⟨List.nodup_nil, fun D h => by cases h⟩, rfl⟩
      · rintro a' wr ⟨nn, Bn, l, Ds, x4, x6, x7, x8, x16, x17, x18, x19, x20, x21, x22, x23, x24, x25, x26, x27, x28, x29, x30, x31, x32, x33, x34, x35, x36, x37, x38, x39, x40, x41, hbn, hBn, hnn, HVF, HPM, hrow, hkp, hb, hmk, rfl⟩
        obtain ⟨x1', x3'⟩ := HX.out wr hkp
        have c5 : wr.cell? ⟨Bn, 0, none⟩ = some (.int .i64 (nn : Int)) := by simp [World.cell?, hbn]
        have HCW := Lib.hid c5
        by_cases hn0 : 0 < nn
        · have hni : (0 : Int) < (nn : Int) := by omega
          have hln : l.length = N := by rw [HPM.out.length_eq, List.length_range]
          have hlm : ∀ i ∈ l, i < N := fun i hi => List.mem_range.1 (HPM.out.mem_iff.1 hi)
          have HROW := Lib.hid hrow
          have HKP := Lib.hid hkp
          have HBW := Lib.hid hb
          have HBN := Lib.hid hbn
          have HMK := Lib.hid hmk
          clear hrow hkp hb hbn hmk
          gi_wp2_with fail
          refine ⟨trivial, ?_⟩
          gi_at_call 40
          refine (callsIn_wide.2 (piecesB_any (some ⟨B + 1, 0, none⟩) N N (.func (.func 39) #[] #[.pointer (some ⟨B, 0, none⟩), .pointer (some ⟨Bn, 0, none⟩)]) _ ⟨_, _, rfl⟩)).mono ?_
          rintro e w' ⟨rfl, rfl⟩
          obtain ⟨P, hP⟩ : ∃ P, wr.heap.size = P := ⟨_, rfl⟩
          obtain ⟨W6, hW6, b10, b11, hbb, hs6⟩ := two_new wr (.cells #[(.slice (some ⟨B + 1, 0, none⟩) N N)] 26) (.cells #[.func (.func 39) #[] #[.pointer (some ⟨B, 0, none⟩), .pointer (some ⟨Bn, 0, none⟩)]] 54) P hP
          try rw [hW6]
          rw [hP]
          have hPC : C < P := by have := HKP.out.1; omega
          have hK6 := HKP.out.below hbb
          have c56 := (hbb.block Bn (Array.getElem?_eq_some_iff.1 HBN.out).1).trans HBN.out
          have HX6 : Hid (∀ V, KpR (.slice (some ⟨B + 1, 0, none⟩) N N) W6 V → (V.cell? ⟨B, 0, none⟩ = some (.slice ka N kc) ∧ V.cell? ⟨C, 0, none⟩ = some ((.slice (some ⟨B + 1, 0, none⟩) N N))) ∧ V.heap[Bn]? = some (.cells #[.int .i64 (nn : Int)] 3 (0, 0)) ∧ V.cell? ⟨P, 0, none⟩ = some ((.slice (some ⟨B + 1, 0, none⟩) N N)) ∧ V.cell? ⟨P + 1, 0, none⟩ = some (.func (.func 39) #[] #[.pointer (some ⟨B, 0, none⟩), .pointer (some ⟨Bn, 0, none⟩)])) := Lib.hid fun V hV =>
            ⟨HX.out V (hK6.trans hV), (hV.2 Bn (Array.getElem?_eq_some_iff.1 c56).1 (fun e => by simp [Value.ownBlock] at e; omega)).trans c56, hV.cell (by simp [World.cell?, b10]) (fun e => by simp [Value.ownBlock] at e; omega), hV.cell (by simp [World.cell?, b11]) (fun e => by simp [Value.ownBlock] at e; omega)⟩
          have HB6 := Lib.hid (bnext HBW.out hbb)
          have HK6 := Lib.hid hK6
          have HO6 := Lib.hid (own_below HROW.out hbb)
          have HM6 := Lib.hid (HMK.out.below hbb)
          clear hW6 hbb b10 b11 hK6 c56 x1' x3' c5 HROW HKP HBW HBN HMK
          gi_wp2_with fail
          refine range_need rfl h1 (gf := 53) (lb := #[.pointer (some ⟨P, 0, none⟩), .pointer (some ⟨P + 1, 0, none⟩)]) rfl trivial (enters_of Tryd.func53 (by kernel_rfl) rfl) (pcV_need (m - 1) (by omega) (some ⟨B + 1, 0, none⟩) N N P (P + 1) B Bn (OP.ints l) (fun x => OP.hi L nn x.toNat) (by rw [OP.ints_len]; exact hln) (by omega) W6) (Below.refl _ _) (fun _ => rfl)
            (fun pre W => pendV pre ≤ N ∧ W.ownsRow (B + 1) 3 1 (.slice (some ⟨B + 1, 0, none⟩) N N) N ((OP.ints (OP.vp (OP.hi L nn) l (pendV pre))).map (Value.int .i64)) ∧ KpR (.slice (some ⟨B + 1, 0, none⟩) N N) W6 W ∧ Below w.heap.size w W ∧ BdV (OP.ints l) (fun x => OP.hi L nn x.toNat) (pendV pre))
            (fun _ _ _ => False) ?hN ?hI (fun _ _ _ _ _ h _ _ => h) ?h0
            (fun pre x a' W => PcGV N (OP.ints l) (fun x => OP.hi L nn x.toNat) pre x W ∧ ∃ Bx, W6.heap.size ≤ Bx ∧ W.heap[Bx]? = some (.cells #[.int .i64 (x.1 : Int), .int .i64 (x.2.1 : Int)] 52 (0, 0)) ∧ a' = { tmps := #[.slice ka N kc, .pointer (some ⟨B, 0, none⟩), .slice none 0 0, .pointer (some ⟨C, 0, none⟩), x4, .pointer (some ⟨Bn, 0, none⟩), .func (.func 39) #[] #[.pointer (some ⟨B, 0, none⟩), .pointer (some ⟨Bn, 0, none⟩)], .pointer (some ⟨Bx, 0, none⟩), .bool x.2.2, .slice ka N kc, .int .i64 (N : Int), (.slice (some ⟨B + 1, 0, none⟩) N N), (.slice (some ⟨B + 1, 0, none⟩) N N), .int .i64 (N : Int), .int .i64 (N : Int), .bool false, x16, x17, x18, x19, x20, x21, .int .i64 (nn : Int), .bool true, x24, x25, .func (.func 39) #[] #[.pointer (some ⟨B, 0, none⟩), .pointer (some ⟨Bn, 0, none⟩)], (.slice (some ⟨B + 1, 0, none⟩) N N), .func (.func 39) #[] #[.pointer (some ⟨B, 0, none⟩), .pointer (some ⟨Bn, 0, none⟩)], .func (.func 53) #[] #[.pointer (some ⟨P, 0, none⟩), .pointer (some ⟨P + 1, 0, none⟩)], .agg #[.int .i64 (x.1 : Int), .int .i64 (x.2.1 : Int)], .bool x.2.2, x32, x33, x34, x35, x36, x37, x38, x39, x40, x41], defers := [] })
            ?hAx ?assign ?body ?done ?stop
          case hN =>
            rintro pre W ⟨hp, hrow, hkp, hbw, hbd⟩
            obtain ⟨⟨y1, y2⟩, y3, y4, y5⟩ := HX6.out W hkp
            refine ⟨y4, y5, fun k x hk hx => ⟨B + 1, 0, rfl, ?_⟩, fun x hx => ?_⟩
            · have hkl := (List.getElem?_eq_some_iff.1 hx).1
              rw [OP.ints_len, hln] at hkl
              rw [Nat.zero_add, hrow.cellAt k (by omega), List.getElem?_map]
              have e : (OP.ints (OP.vp (OP.hi L nn) l (pendV pre)))[k]? = some x := by
                rw [← hx]
                unfold OP.ints
                rw [List.getElem?_map, List.getElem?_map, OP.vp_ge (by omega) hk]
              rw [e]
              rfl
            · obtain ⟨i, hi, rfl⟩ := List.mem_map.1 hx
              have hh := ohigh_any L i nn ka N kc B Bn W HLN.out (hlm i hi) hnn y1 (by simp [World.cell?, y3]) (HV.out W hbw)
              rw [Int.toNat_natCast]
              exact hh
          case hI =>
            rintro pre W W' row ⟨hp, hrow, hkp, hbw, hbd⟩ hg hr
            exact ⟨hp, own_of_grown hrow hg (fun q e e2 => by have h2 : B + 1 = q := Option.some.inj e; have := (hr q e2).1; omega), hkp.grown hg (fun q e => (hr q e).1), hbw.grown hg (by have := HB6.out.size; have := hkp.1; omega) (fun q e => by have := (hr q e).1; have := HB6.out.size; omega), hbd⟩
          case h0 => exact ⟨Nat.zero_le _, by rw [show pendV [] = 0 from rfl, OP.vp_zero]; exact HO6.out, KpR.refl _ _, HB6.out, fun h => absurd h (by decide)⟩
          case hAx =>
            rintro pre x a' u W W' row ⟨h1, Bx, h2, h3, h4⟩ hg hr
            exact ⟨h1, Bx, h2, (hg.block Bx (Array.getElem?_eq_some_iff.1 h3).1 (fun e => by obtain ⟨o, ho, hc⟩ := (hr Bx e.symm).2; rw [h3] at ho; cases ho; cases hc)).trans h3, h4⟩
          case assign =>
            rintro Lp pre ⟨xf, xt, xv⟩ W Kc ⟨hp, hrow, hkp, hbw, hbd⟩ hG hK
            simp only [peV]
            have HKK := Lib.hid hK
            clear hK
            have HP := Lib.hid hp
            have HR := Lib.hid hrow
            have HKP := Lib.hid hkp
            have HBW := Lib.hid hbw
            have HBD := Lib.hid hbd
            have HG := Lib.hid hG
            clear hp hrow hkp hbw hbd hG
            gi_wp2
            have hbA : Below W.heap.size W (W.alloc (.cells #[.int .i64 (xf : Int), .int .i64 (xt : Int)] 52)) := balloc (Below.refl _ _) _
            exact HKK.out _ _ ((KeepsOthers.alloc _ _).from _) ⟨HP.out, own_below HR.out hbA, HKP.out.below hbA, bnext HBW.out hbA, HBD.out⟩ ⟨HG.out, W.heap.size, HKP.out.1, heap_alloc_new W _, rfl⟩
          case body =>
            rintro Lp pre ⟨xf, xt, xv⟩ a' W hlp ⟨r, hr⟩ ⟨hp, hrow, hkp, hbw, hbd⟩ ⟨hG, Bx, hBx, hbx, rfl⟩
            have hbd2 := BdV.next hG
            obtain ⟨g1, g2, g3, g4, g5⟩ := id hG
            simp only at hbx hbd2 g1 g2 g3 g4 g5
            rw [← g1] at hp hrow hbd
            clear g1 hG
            have hki : ∀ (i x : Nat), l[i]? = some x → (OP.ints l)[i]? = some (x : Int) := fun i x h => by unfold OP.ints; rw [List.getElem?_map, h]; rfl
            have hxtl : xt ≤ l.length := by rw [hln]; exact g3
            have HR := Lib.hid hrow
            have HKP := Lib.hid hkp
            have HBW := Lib.hid hbw
            have HBX := Lib.hid hbx
            have HBD2 := Lib.hid hbd2
            cases xv with
            | false =>
              have hsk : Hid (OP.vp (OP.hi L nn) l xt = OP.vp (OP.hi L nn) l xf) := Lib.hid (OP.vp_false g2 hxtl (fun i x h1 h2 hx => by have := g4 i _ h1 h2 (hki i x hx); simpa using this))
              clear g4 g5 hbd hbd2 hrow hkp hbw hr hbx
              gi_wp2
              refine ⟨(KeepsOthers.refl _).from _, trivial, ?_⟩
              exact ⟨by rw [pendV_snoc]; exact g3, by rw [pendV_snoc, hsk.out]; exact HR.out, HKP.out, HBW.out, by rw [pendV_snoc]; exact HBD2.out⟩
            | true =>
              have hrv : Hid (OP.ints (OP.vp (OP.hi L nn) l xt) = OP.rev (OP.ints (OP.vp (OP.hi L nn) l xf)) xf (xt - xf)) := Lib.hid (OP.vp_true g2 hxtl (fun i x h1 h2 hx => by have := g4 i _ h1 h2 (hki i x hx); simpa using this) (fun h0 x hx => by
                obtain ⟨y, hy⟩ : ∃ y, l[xf]? = some y := ⟨l[xf]'(by omega), List.getElem?_eq_getElem _⟩
                have e1 : OP.hi L nn x ≠ OP.hi L nn y := by simpa using hbd h0 _ _ (hki xf y hy) (hki (xf - 1) x hx)
                have e2 : OP.hi L nn y = true := by simpa using g4 xf _ (Nat.le_refl _) g2 (hki xf y hy)
                rw [e2] at e1
                simpa using e1) (fun x hx => by have := g5 _ (hki xt x hx); simpa using this))
              obtain ⟨⟨y1, y2⟩, -⟩ := HX6.out W hkp
              obtain ⟨z0, z1⟩ := two_cell hbx
              have hRL := OP.vp_len (p := OP.hi L nn) (l := l) (e := xf) (by omega)
              have HRV := Lib.hid (oreverse_any (OP.ints (OP.vp (OP.hi L nn) l xf)) (B + 1) xf (xt - xf) N N (N - xf) (B + 1) W hrow (by rw [OP.ints_len, hRL, hln]) (by omega) hl)
              have hq1 : (xf : Int) ≤ (xt : Int) := by omega
              have hq2 : (xt : Int) ≤ (N : Int) := by omega
              have hq0 : (0 : Int) ≤ (xf : Int) := by omega
              have hq3 : ¬ N = xf := by omega
              clear g4 g5 hbd hbd2 hrow hkp hbw hr hbx hki hRL
              gi_wp2_with fail
              refine ⟨trivial, fun _ => by omega, ?_⟩
              refine (CallsIn.inRound Lp (callsIn_wide.2 HRV.out)).mono ?_
              rintro e W7 ⟨rfl, ho7, hk7, hb7⟩
              have HO7 := Lib.hid ho7
              have HK7 := Lib.hid hk7
              have HB7 := Lib.hid hb7
              clear ho7 hk7 hb7
              gi_wp2
              refine ⟨keeps_row HK7.out HR.out _, trivial, ?_⟩
              exact ⟨by rw [pendV_snoc]; exact g3, by rw [pendV_snoc, hrv.out]; exact HO7.out, HKP.out.trans HK7.out, HBW.out.trans (HB7.out.mono (by rw [HB.out]; omega)), by rw [pendV_snoc]; exact HBD2.out⟩
          case done =>
            rintro Dn zs W hD hz ⟨hp, hrow, hkp, hbw, hbd⟩ hK
            rw [hz, OP.vp_end hln] at hrow
            obtain ⟨⟨y1, y2⟩, y3, -, -⟩ := HX6.out W hkp
            have c5 : W.cell? ⟨Bn, 0, none⟩ = some (.int .i64 (nn : Int)) := by simp [World.cell?, y3]
            have hmw : Marks W2.heap.size Ds W := ⟨HM6.out.1, fun r hr => ⟨(HM6.out.2 r hr).1, (hkp.2 r (HM6.out.lt r hr) (fun e => by have h2 : B + 1 = r := Option.some.inj e; have := (HM6.out.2 r hr).1; omega)).trans (HM6.out.2 r hr).2⟩⟩
            have hmc : Marks W2.heap.size (Dn :: Ds) W := hmw.cons (fun hr => by have := HM6.out.lt Dn hr; omega) (by have := HK6.out.1; omega) hK
            have HR := Lib.hid hrow
            have HKW := Lib.hid (HK6.out.trans hkp)
            have HBW := Lib.hid hbw
            have HMC := Lib.hid hmc
            clear hrow hkp hbw hmw hmc hbd hp hK y3
            gi_wp2
            have e : (nn : Int) - 1 = ((nn - 1 : Nat) : Int) := by omega
            have hbA : Below W.heap.size W (W.alloc (.cells #[.int .i64 ((nn - 1 : Nat) : Int)] 3)) := balloc (Below.refl _ _) _
            have hca : (W.alloc (.cells #[.int .i64 ((nn - 1 : Nat) : Int)] 3)).cell? ⟨W.heap.size, 0, none⟩ = some (.int .i64 ((nn - 1 : Nat) : Int)) := by simp only [World.cell?, heap_alloc_new W (.cells #[.int .i64 ((nn - 1 : Nat) : Int)] 3)]; rfl
            rw [e]
            refine ⟨⟨nn - 1, W.heap.size, OP.rr (OP.hi L nn) l, Dn :: Ds, _, _, _, _, _, _, _, _, _, _, _, _, _, _, _, _, _, _, _, _, _, _, _, _, _, _, _, _, _, _, heap_alloc_new W _, by have := HKW.out.1; omega, by omega, Lib.hid ?vf, Lib.hid ((OP.rr_perm _ l).trans HPM.out), own_below HR.out hbA, HKW.out.below hbA, bnext HBW.out hbA, HMC.out.below hbA, rfl⟩, ?ms⟩
            case vf =>
              obtain ⟨q, rfl⟩ : ∃ q, nn = q + 1 := ⟨nn - 1, by omega⟩
              exact HVF.out
            case ms =>
              show cellNat (.pointer (some ⟨W.heap.size, 0, none⟩)) _ < cellNat (.pointer (some ⟨Bn, 0, none⟩)) wr
              rw [cellNat_int hca, cellNat_int HCW.out]
              omega
          case stop =>
            rintro D c pre W _ _ h _
            exact h.elim
        · obtain rfl : nn = 0 := by omega
          have hln : l = OP.vis L := HVF.out
          rw [hln] at hrow
          have HROW := Lib.hid hrow
          have HBW := Lib.hid hb
          have HMK := Lib.hid hmk
          have HKP := Lib.hid hkp
          clear hrow hb hmk hkp hbn
          gi_wp2
          refine leaves_marks Ds wr HMK.out HKP.out.1 (fun w' hb' hc' => ?_)
          exact ⟨_, results_tmp rfl _ _ _, (.slice (some ⟨B + 1, 0, none⟩) N N), rfl, own_base (own_cells HROW.out hc') (by rw [HB.out]; omega), HBW.out.trans (hb'.mono HB2.out.size)⟩
theorem ovisual_any (L : List Int) (v : Value) (w : World) (hv : RowAt w v (L.map (Value.int .i64))) (hl : L.length ≤ 1000000000) :
    Calls Tryd.prog 24 #[v] w fun e W' => ∃ v', e = .returned v' ∧ W'.ownsRow w.heap.size 3 1 v' L.length ((OP.ints (OP.vis L)).map (Value.int .i64)) ∧ Below w.heap.size w W' :=
  callsIn_wide.1 (ovisual_in 3 (Nat.le_refl _) L v w hv hl)
end Go.Proofs.YtbgmbcngkmlfeaaDoor
