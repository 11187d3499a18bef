/- For every string and every list of calls WireReads returns true: whatever is read from whatever bytes, in whatever order, is what the reference reads. No conditions. -/
import Derived.Test.YtkakjpkgbbpjdaaWireQC
import Derived.Test.YtkakjpkgbbpjdaaWireSame
import Derived.Test.YtkakjpkgbbpjdaaWireArgs
import Derived.Test.YtkakjpkgbbpjdaaWireNil
import Derived.Test.YtkakjpkgbbpjdaaWireSane
import Derived.ChangeMaps5
namespace Go.Proofs.Ytkakjpkgbbpjdaa.wireReads
open Go.ChangeShapes Go.WideShapes Go.ChangeAt Go.RowKit Go.Joins Go.Deep Go.ChangeMaps
set_option linter.unusedVariables false

section
variable {H : Type} {enc : TypeId × Value → H} {W : World}
theorem open_b {base : Nat} {v : Value} {d : DataW H} {p : List MemPlace} (hv : Value.okWide Try.prog W .any base 35 v) (h : DataW.Trod enc Try.prog W 0 (fun _ => true) true 35 v d p) :
    ∃ L : List Int, RowAt W v (L.map (Value.int .u8)) ∧ (L.length ≤ maxLen ∧ ∀ a n c, v = .slice a n c → n ≤ c) ∧ ∀ x, x ∈ L → 0 ≤ x ∧ x ≤ 255 := by
  obtain ⟨a0, len, cap, rfl⟩ := okWide_slice Try.underlying35 hv
  obtain ⟨fuel, hf⟩ := h
  rcases open_ints Try.underlying35 Try.underlying5 (by kernel_rfl) hf with ⟨hcs, _⟩ | ⟨a, len', cap', zs, hcs, _, hl, hm, hzl, _, hz, hwf⟩
  · simp [Value.cells] at hcs
    obtain ⟨rfl, rfl, rfl⟩ := hcs
    exact ⟨[], ⟨none, 0, rfl, Or.inl rfl⟩, ⟨by simp [maxLen], fun a n c h => by injection h with _ h2 h3; omega⟩, by simp⟩
  · simp [Value.cells] at hcs
    obtain ⟨rfl, rfl, rfl⟩ := hcs
    rw [if_pos rfl] at hzl
    refine ⟨zs.take len, row_of (by simp; omega) (fun i hi => ?_), ⟨by simp; omega, fun a n c h => by injection h with _ h2 h3; omega⟩, fun x hx => bd8 (hwf x (List.mem_of_mem_take hx))⟩
    have hi' : i < len ∧ i < zs.length := by simp at hi; omega
    rw [hz i hi'.2]
    simp [List.getD, hi'.1, hi'.2]
end
theorem qat_other {b c : Nat} {r : WP.RS} {w w' : World} (h : QAt b r w) (k : Kept c w w') (hne : b ≠ c) : QAt b r w' := ⟨(k.block b h.lt (fun e => by simp at e; omega)).trans h.1, h.2⟩
theorem str_same (X : ByteArray) : (X.toList == X.toList) = true := by simp
theorem text_src (r : WP.RS) : r.text.2.s = r.s := by
  unfold WP.RS.text
  split
  · exact WP.count_s r
  · exact WP.count_s r
theorem elems_src {α : Type} (one : WP.RS → α × WP.RS) (ho : ∀ r, (one r).2.s = r.s) : ∀ (f : Nat) (l : List α) (r : WP.RS), (WP.elems one f l r).2.s = r.s
  | 0, l, r => rfl
  | f + 1, l, r => by
    rw [WP.elems]
    split
    · rfl
    · rw [elems_src one ho f, ho]
theorem elements_src {α : Type} (one : WP.RS → α × WP.RS) (ho : ∀ r, (one r).2.s = r.s) (r : WP.RS) : (WP.RS.elements one r).2.s = r.s := by
  unfold WP.RS.elements
  split
  · exact (elems_src one ho _ _ _).trans (WP.count_s r)
  · exact (elems_src one ho _ _ _).trans (WP.count_s r)
theorem own_max {w : World} {B e size n : Nat} {v : Value} {xs : List Value} (h : w.ownsRow B e size v n xs) : n ≤ maxLen := by
  rcases h.2 with ⟨hv, hn⟩ | ⟨g, cap, cur, hv, _, _, _, hm, _⟩
  · omega
  · first | exact hm | omega
set_option maxRecDepth 100000 in
set_option maxHeartbeats 4000000 in
theorem walk (a0 : ByteArray) (v1 : Value) (a1 : List Int) (wa0 : a0.size ≤ maxLen) (w : World) (H1 : RowAt w v1 (a1.map (Value.int .u8))) (L1 : a1.length ≤ maxLen ∧ ∀ a n c, v1 = .slice a n c → n ≤ c) (E1 : ∀ x, x ∈ a1 → 0 ≤ x ∧ x ≤ 255) :
    Calls Try.prog 5 #[.string a0, v1] w fun e w' => e = .returned (.bool true) ∧ Below w.heap.size w w' := by
  obtain ⟨k1, c1, rfl, hr1⟩ := id H1
  rw [List.length_map] at hr1 ⊢
  have ACCR := Lib.hid hr1
  have HE := Lib.hid E1
  have hlen := L1.1
  unfold maxLen at wa0 hlen
  have acc0 : Below w.heap.size w w := Below.refl _ _
  clear hr1 H1 E1 L1
  go_enter Try.func5, Try.ntmps5
  go_wp2_with fail
  refine (sanity_any _).mono ?_
  rintro e w1 ⟨rfl, hb1⟩
  have acc1 := bnext acc0 hb1
  clear hb1 acc0
  by_cases h200 : a0.size ≤ 200
  · have hmn : min (a0.size : Int) 200 = (a0.size : Int) := by omega
    go_wp2_with fail
    obtain ⟨S, hS, hS1⟩ : ∃ S : ByteArray, a0 = S ∧ S.size ≤ 200 := ⟨_, rfl, by omega⟩
    rw [hS]
    clear hS
    obtain ⟨sl, hsl⟩ : ∃ sl : List UInt8, WP.S sl = S := ⟨S.data.toList, WP.S_of S⟩
    have hsl200 : sl.length ≤ 200 := by rw [← hsl, WP.S_size] at hS1; exact hS1
    have N1 := Lib.hid fun V => new_any sl V (by omega)
    have N2 := Lib.hid fun V => qnew_any sl V (by omega)
    rw [hsl] at N1 N2
    clear hsl
    refine (N1.out _).mono ?_
    rintro e w2 ⟨rfl, ha, hb2⟩
    have acc2 := bnext acc1 hb2
    have hlt := ha.lt
    obtain ⟨Pa, hPae⟩ : ∃ Pa, w1.heap.size = Pa := ⟨_, rfl⟩
    have hPa : w.heap.size ≤ Pa := by rw [← hPae]; exact acc1.size
    rw [hPae] at ha hlt ⊢
    clear hb2 N1 hPae acc1
    go_wp2_with fail
    refine (N2.out _).mono ?_
    rintro e w3 ⟨rfl, hq, hb3⟩
    have acc3 := bnext acc2 hb3
    replace ha := ha.keep hb3
    obtain ⟨Pb, hPbe⟩ : ∃ Pb, w2.heap.size = Pb := ⟨_, rfl⟩
    have hPb : w.heap.size ≤ Pb := by rw [← hPbe]; exact acc2.size
    rw [hPbe] at hq hlt ⊢
    have hne : Pa ≠ Pb := by omega
    clear hb3 N2 hPbe acc2 hlt
    go_wp2_with fail
    go_loopw [8] (fun v8 wr => ∃ k r, v8 = .int .i64 ((k : Nat) : Int) ∧ k ≤ a1.length ∧ RAt Pa r wr ∧ QAt Pb r wr ∧ Hid (r.s.length ≤ 200) ∧ Below w.heap.size w wr) (fun v _ => a1.length - (intOf v).toNat)
    case atStart => exact ⟨0, ⟨sl, 0, false⟩, rfl, Nat.zero_le _, ha, hq, Lib.hid hsl200, acc3⟩
    case round =>
      obtain ⟨k, r, rfl, hk, h1, h2, HS, acc⟩ := hrel
      by_cases h1k : k < a1.length
      · have h1i : (k : Int) < (a1.length : Int) := by omega
        by_cases h20 : k < 20
        · have h20i : (k : Int) < 20 := by omega
          obtain ⟨x, hx⟩ : ∃ x, a1[k]? = some x := ⟨_, List.getElem?_eq_getElem h1k⟩
          obtain ⟨hx0, hx1⟩ := HE.out x (List.mem_of_getElem? hx)
          obtain ⟨g, o, rfl, hg, hc⟩ := ACCR.out.resolve_left (by intro e; simp at e; subst e; simp at h1k)
          have d1 := hc k (by simpa using h1k)
          rw [show ((a1.map (Value.int .u8)).getD k (.bool false)) = .int .u8 x by simp [List.getD, hx]] at d1
          replace d1 := (acc.cell (p := ⟨g, o + k, none⟩) hg).trans d1
          have hsl := HS.out
          have hjj : x % 4 = 0 ∨ x % 4 = 1 ∨ x % 4 = 2 ∨ x % 4 = 3 := by omega
          have hj3 : True := trivial
          clear hx hc ha hq acc3 ACCR HE
          rcases hjj with hj | hj | hj | hj
          · have hm1 : x.tmod 4 = 0 := by rw [Int.tmod_eq_emod_of_nonneg hx0]; exact hj
            clear hj3
            have C1 := Lib.hid (read_any Pa r wr h1)
            have C2 := Lib.hid fun V (hV : QAt Pb r V) => qread_any Pb r V hV
            have hsr : Hid (r.int.2.s = r.s) := Lib.hid (WP.int_s r)
            generalize r.int = X at C1 C2 hsr
            obtain ⟨x, r3⟩ := X
            simp only at C1 C2 hsr
            go_wp2_with fail
            refine C1.out.mono ?_
            rintro e w1 ⟨rfl, ha1, ka1⟩
            have hq1 := qat_other h2 ka1 (fun e => hne e.symm)
            have acc1 := acc.trans (ka1.below hPa acc.size)
            clear C1 h1 h2 ka1 acc
            go_wp2_with fail
            refine (C2.out _ hq1).mono ?_
            rintro e w2 ⟨rfl, hq2, kb2⟩
            have ha2 := ha1.other kb2 hne
            have acc2 := acc1.trans (kb2.below hPb acc1.size)
            clear C2 hq1 ha1 kb2 acc1
            have lf : Hid (∀ V, RAt Pa r3 V → Calls Try.prog 15 #[.pointer (some ⟨Pa, 0, none⟩)] V fun e w' => e = .returned (.int .i64 r3.left) ∧ Below V.heap.size V w') := Lib.hid fun V hV => left_any Pa r3 V hV
            have lg : Hid (∀ V, QAt Pb r3 V → Calls Try.prog 34 #[.pointer (some ⟨Pb, 0, none⟩)] V fun e w' => e = .returned (.int .i64 r3.left) ∧ Below V.heap.size V w') := Lib.hid fun V hV => qleft_any Pb r3 V hV
            have bf : Hid (∀ V, RAt Pa r3 V → Calls Try.prog 16 #[.pointer (some ⟨Pa, 0, none⟩)] V fun e w' => e = .returned (.bool r3.bad) ∧ w' = V) := Lib.hid fun V hV => bad_any Pa r3 V hV
            have bg : Hid (∀ V, QAt Pb r3 V → Calls Try.prog 35 #[.pointer (some ⟨Pb, 0, none⟩)] V fun e w' => e = .returned (.bool r3.bad) ∧ w' = V) := Lib.hid fun V hV => qbad_any Pb r3 V hV
            have hs3 : Hid (r3.s.length ≤ 200) := Lib.hid (by rw [hsr.out]; exact hsl)
            generalize r3.left = lft at lf lg
            have hln : ((lft : Int) != (lft : Int)) = false := by simp
            obtain ⟨bd, hbd⟩ : ∃ bd, r3.bad = bd := ⟨_, rfl⟩
            rw [hbd] at bf bg
            have hbn : (bd != bd) = false := by simp
            clear hbd hsr
            go_wp2_with fail
            refine (lf.out _ ha2).mono ?_
            rintro e w4 ⟨rfl, hb4⟩
            replace ha2 := ha2.keep hb4
            replace hq2 := hq2.keep hb4
            replace acc2 := bnext acc2 hb4
            clear hb4 lf
            go_wp2_with fail
            refine (lg.out _ hq2).mono ?_
            rintro e w5 ⟨rfl, hb5⟩
            replace ha2 := ha2.keep hb5
            replace hq2 := hq2.keep hb5
            replace acc2 := bnext acc2 hb5
            clear hb5 lg
            go_wp2_with fail
            refine (bf.out _ ha2).mono ?_
            rintro e w6 ⟨rfl, rfl⟩
            go_wp2_with fail
            refine (bg.out _ hq2).mono ?_
            rintro e w7 ⟨rfl, rfl⟩
            go_wp2_with fail
            go_roundw
            case rel => exact ⟨k + 1, r3, by go_num, h1k, ha2, hq2, hs3, acc2⟩
            case measure => simp [intOf]; omega
          · have hm1 : x.tmod 4 = 1 := by rw [Int.tmod_eq_emod_of_nonneg hx0]; exact hj
            clear hj3
            have C1 := Lib.hid (rtext_any' Pa r wr h1)
            have C2 := Lib.hid fun V (hV : QAt Pb r V) => qtext_any Pb r V hV
            have hsr : Hid (r.text.2.s = r.s) := Lib.hid (text_src r)
            generalize r.text = X at C1 C2 hsr
            obtain ⟨x, r3⟩ := X
            simp only at C1 C2 hsr
            have hss := str_same (WP.S x)
            go_wp2_with fail
            refine C1.out.mono ?_
            rintro e w1 ⟨rfl, ha1, ka1⟩
            have hq1 := qat_other h2 ka1 (fun e => hne e.symm)
            have acc1 := acc.trans (ka1.below hPa acc.size)
            clear C1 h1 h2 ka1 acc
            go_wp2_with fail
            refine (C2.out _ hq1).mono ?_
            rintro e w2 ⟨rfl, hq2, kb2⟩
            have ha2 := ha1.other kb2 hne
            have acc2 := acc1.trans (kb2.below hPb acc1.size)
            clear C2 hq1 ha1 kb2 acc1
            have lf : Hid (∀ V, RAt Pa r3 V → Calls Try.prog 15 #[.pointer (some ⟨Pa, 0, none⟩)] V fun e w' => e = .returned (.int .i64 r3.left) ∧ Below V.heap.size V w') := Lib.hid fun V hV => left_any Pa r3 V hV
            have lg : Hid (∀ V, QAt Pb r3 V → Calls Try.prog 34 #[.pointer (some ⟨Pb, 0, none⟩)] V fun e w' => e = .returned (.int .i64 r3.left) ∧ Below V.heap.size V w') := Lib.hid fun V hV => qleft_any Pb r3 V hV
            have bf : Hid (∀ V, RAt Pa r3 V → Calls Try.prog 16 #[.pointer (some ⟨Pa, 0, none⟩)] V fun e w' => e = .returned (.bool r3.bad) ∧ w' = V) := Lib.hid fun V hV => bad_any Pa r3 V hV
            have bg : Hid (∀ V, QAt Pb r3 V → Calls Try.prog 35 #[.pointer (some ⟨Pb, 0, none⟩)] V fun e w' => e = .returned (.bool r3.bad) ∧ w' = V) := Lib.hid fun V hV => qbad_any Pb r3 V hV
            have hs3 : Hid (r3.s.length ≤ 200) := Lib.hid (by rw [hsr.out]; exact hsl)
            generalize r3.left = lft at lf lg
            have hln : ((lft : Int) != (lft : Int)) = false := by simp
            obtain ⟨bd, hbd⟩ : ∃ bd, r3.bad = bd := ⟨_, rfl⟩
            rw [hbd] at bf bg
            have hbn : (bd != bd) = false := by simp
            clear hbd hsr
            go_wp2_with fail
            refine (lf.out _ ha2).mono ?_
            rintro e w4 ⟨rfl, hb4⟩
            replace ha2 := ha2.keep hb4
            replace hq2 := hq2.keep hb4
            replace acc2 := bnext acc2 hb4
            clear hb4 lf
            go_wp2_with fail
            refine (lg.out _ hq2).mono ?_
            rintro e w5 ⟨rfl, hb5⟩
            replace ha2 := ha2.keep hb5
            replace hq2 := hq2.keep hb5
            replace acc2 := bnext acc2 hb5
            clear hb5 lg
            go_wp2_with fail
            refine (bf.out _ ha2).mono ?_
            rintro e w6 ⟨rfl, rfl⟩
            go_wp2_with fail
            refine (bg.out _ hq2).mono ?_
            rintro e w7 ⟨rfl, rfl⟩
            go_wp2_with fail
            go_roundw
            case rel => exact ⟨k + 1, r3, by go_num, h1k, ha2, hq2, hs3, acc2⟩
            case measure => simp [intOf]; omega
          · have hm1 : x.tmod 4 = 2 := by rw [Int.tmod_eq_emod_of_nonneg hx0]; exact hj
            clear hj3
            have C1 := Lib.hid (ints_read Pa r wr h1 (by omega))
            have C2 := Lib.hid fun V (hV : QAt Pb r V) => qints_any Pb r V hV (by omega)
            have hsr : Hid (r.ints.2.s = r.s) := Lib.hid (elements_src WP.RS.int WP.int_s r)
            generalize r.ints = X at C1 C2 hsr
            obtain ⟨L, r3⟩ := X
            simp only at C1 C2 hsr
            go_wp2_with fail
            refine C1.out.mono ?_
            rintro e w1 ⟨v1, rfl, o1, ha1, ka1⟩
            have hq1 := qat_other h2 ka1 (fun e => hne e.symm)
            have acc1 := acc.trans (ka1.below hPa acc.size)
            have hl1 := own_max o1
            obtain ⟨p1, c1, rfl⟩ := own_shape o1
            have hPb1 : Pb < wr.heap.size := h2.lt
            clear C1 h1 h2 acc
            go_wp2_with fail
            refine (C2.out _ hq1).mono ?_
            rintro e w2 ⟨v2, rfl, o2, hq2, kb2⟩
            have ha2 := ha1.other kb2 hne
            have acc2 := acc1.trans (kb2.below hPb acc1.size)
            have o1' := own_kept o1 hPb1 kb2
            have S := Lib.hid (same_ints _ _ L w2 (row_own o1' (by rw [List.length_map])) (row_own o2 (by rw [List.length_map])) (by unfold maxLen at hl1; omega))
            obtain ⟨p2, c2, rfl⟩ := own_shape o2
            clear C2 hq1 ha1 kb2 acc1 o1 o2 o1' ka1
            go_wp2_with fail
            refine S.out.mono ?_
            rintro e w3 ⟨rfl, hb3⟩
            replace ha2 := ha2.keep hb3
            replace hq2 := hq2.keep hb3
            replace acc2 := bnext acc2 hb3
            clear hb3 S
            have lf : Hid (∀ V, RAt Pa r3 V → Calls Try.prog 15 #[.pointer (some ⟨Pa, 0, none⟩)] V fun e w' => e = .returned (.int .i64 r3.left) ∧ Below V.heap.size V w') := Lib.hid fun V hV => left_any Pa r3 V hV
            have lg : Hid (∀ V, QAt Pb r3 V → Calls Try.prog 34 #[.pointer (some ⟨Pb, 0, none⟩)] V fun e w' => e = .returned (.int .i64 r3.left) ∧ Below V.heap.size V w') := Lib.hid fun V hV => qleft_any Pb r3 V hV
            have bf : Hid (∀ V, RAt Pa r3 V → Calls Try.prog 16 #[.pointer (some ⟨Pa, 0, none⟩)] V fun e w' => e = .returned (.bool r3.bad) ∧ w' = V) := Lib.hid fun V hV => bad_any Pa r3 V hV
            have bg : Hid (∀ V, QAt Pb r3 V → Calls Try.prog 35 #[.pointer (some ⟨Pb, 0, none⟩)] V fun e w' => e = .returned (.bool r3.bad) ∧ w' = V) := Lib.hid fun V hV => qbad_any Pb r3 V hV
            have hs3 : Hid (r3.s.length ≤ 200) := Lib.hid (by rw [hsr.out]; exact hsl)
            generalize r3.left = lft at lf lg
            have hln : ((lft : Int) != (lft : Int)) = false := by simp
            obtain ⟨bd, hbd⟩ : ∃ bd, r3.bad = bd := ⟨_, rfl⟩
            rw [hbd] at bf bg
            have hbn : (bd != bd) = false := by simp
            clear hbd hsr
            go_wp2_with fail
            refine (lf.out _ ha2).mono ?_
            rintro e w4 ⟨rfl, hb4⟩
            replace ha2 := ha2.keep hb4
            replace hq2 := hq2.keep hb4
            replace acc2 := bnext acc2 hb4
            clear hb4 lf
            go_wp2_with fail
            refine (lg.out _ hq2).mono ?_
            rintro e w5 ⟨rfl, hb5⟩
            replace ha2 := ha2.keep hb5
            replace hq2 := hq2.keep hb5
            replace acc2 := bnext acc2 hb5
            clear hb5 lg
            go_wp2_with fail
            refine (bf.out _ ha2).mono ?_
            rintro e w6 ⟨rfl, rfl⟩
            go_wp2_with fail
            refine (bg.out _ hq2).mono ?_
            rintro e w7 ⟨rfl, rfl⟩
            go_wp2_with fail
            go_roundw
            case rel => exact ⟨k + 1, r3, by go_num, h1k, ha2, hq2, hs3, acc2⟩
            case measure => simp [intOf]; omega
          · have hm1 : x.tmod 4 = 3 := by rw [Int.tmod_eq_emod_of_nonneg hx0]; exact hj
            clear hj3
            have C1 := Lib.hid (texts_read Pa r wr h1 (by omega))
            have C2 := Lib.hid fun V (hV : QAt Pb r V) => qtexts_any Pb r V hV (by omega)
            have hsr : Hid (r.texts.2.s = r.s) := Lib.hid (elements_src WP.RS.text text_src r)
            generalize r.texts = X at C1 C2 hsr
            obtain ⟨L, r3⟩ := X
            simp only at C1 C2 hsr
            go_wp2_with fail
            refine C1.out.mono ?_
            rintro e w1 ⟨v1, rfl, o1, ha1, ka1⟩
            have hq1 := qat_other h2 ka1 (fun e => hne e.symm)
            have acc1 := acc.trans (ka1.below hPa acc.size)
            have hl1 := own_max o1
            obtain ⟨p1, c1, rfl⟩ := own_shape o1
            have hPb1 : Pb < wr.heap.size := h2.lt
            clear C1 h1 h2 acc
            go_wp2_with fail
            refine (C2.out _ hq1).mono ?_
            rintro e w2 ⟨v2, rfl, o2, hq2, kb2⟩
            have ha2 := ha1.other kb2 hne
            have acc2 := acc1.trans (kb2.below hPb acc1.size)
            have o1' := own_kept o1 hPb1 kb2
            have S := Lib.hid (same_texts _ _ L w2 (row_own o1' (by rw [List.length_map])) (row_own o2 (by rw [List.length_map])) (by unfold maxLen at hl1; omega))
            obtain ⟨p2, c2, rfl⟩ := own_shape o2
            clear C2 hq1 ha1 kb2 acc1 o1 o2 o1' ka1
            go_wp2_with fail
            refine S.out.mono ?_
            rintro e w3 ⟨rfl, hb3⟩
            replace ha2 := ha2.keep hb3
            replace hq2 := hq2.keep hb3
            replace acc2 := bnext acc2 hb3
            clear hb3 S
            have lf : Hid (∀ V, RAt Pa r3 V → Calls Try.prog 15 #[.pointer (some ⟨Pa, 0, none⟩)] V fun e w' => e = .returned (.int .i64 r3.left) ∧ Below V.heap.size V w') := Lib.hid fun V hV => left_any Pa r3 V hV
            have lg : Hid (∀ V, QAt Pb r3 V → Calls Try.prog 34 #[.pointer (some ⟨Pb, 0, none⟩)] V fun e w' => e = .returned (.int .i64 r3.left) ∧ Below V.heap.size V w') := Lib.hid fun V hV => qleft_any Pb r3 V hV
            have bf : Hid (∀ V, RAt Pa r3 V → Calls Try.prog 16 #[.pointer (some ⟨Pa, 0, none⟩)] V fun e w' => e = .returned (.bool r3.bad) ∧ w' = V) := Lib.hid fun V hV => bad_any Pa r3 V hV
            have bg : Hid (∀ V, QAt Pb r3 V → Calls Try.prog 35 #[.pointer (some ⟨Pb, 0, none⟩)] V fun e w' => e = .returned (.bool r3.bad) ∧ w' = V) := Lib.hid fun V hV => qbad_any Pb r3 V hV
            have hs3 : Hid (r3.s.length ≤ 200) := Lib.hid (by rw [hsr.out]; exact hsl)
            generalize r3.left = lft at lf lg
            have hln : ((lft : Int) != (lft : Int)) = false := by simp
            obtain ⟨bd, hbd⟩ : ∃ bd, r3.bad = bd := ⟨_, rfl⟩
            rw [hbd] at bf bg
            have hbn : (bd != bd) = false := by simp
            clear hbd hsr
            go_wp2_with fail
            refine (lf.out _ ha2).mono ?_
            rintro e w4 ⟨rfl, hb4⟩
            replace ha2 := ha2.keep hb4
            replace hq2 := hq2.keep hb4
            replace acc2 := bnext acc2 hb4
            clear hb4 lf
            go_wp2_with fail
            refine (lg.out _ hq2).mono ?_
            rintro e w5 ⟨rfl, hb5⟩
            replace ha2 := ha2.keep hb5
            replace hq2 := hq2.keep hb5
            replace acc2 := bnext acc2 hb5
            clear hb5 lg
            go_wp2_with fail
            refine (bf.out _ ha2).mono ?_
            rintro e w6 ⟨rfl, rfl⟩
            go_wp2_with fail
            refine (bg.out _ hq2).mono ?_
            rintro e w7 ⟨rfl, rfl⟩
            go_wp2_with fail
            go_roundw
            case rel => exact ⟨k + 1, r3, by go_num, h1k, ha2, hq2, hs3, acc2⟩
            case measure => simp [intOf]; omega
        · have h20i : ¬ (k : Int) < 20 := by omega
          go_wp2_with fail
          go_ret
          exact ⟨rfl, acc⟩
      · have h1i : ¬ (k : Int) < (a1.length : Int) := by omega
        go_wp2_with fail
        go_ret
        exact ⟨rfl, acc⟩
  · have hmn : min (a0.size : Int) 200 = 200 := by omega
    go_wp2_with fail
    obtain ⟨S, hS, hS1⟩ : ∃ S : ByteArray, a0.extract 0 200 = S ∧ S.size ≤ 200 := ⟨_, rfl, by simp; omega⟩
    rw [hS]
    clear hS
    obtain ⟨sl, hsl⟩ : ∃ sl : List UInt8, WP.S sl = S := ⟨S.data.toList, WP.S_of S⟩
    have hsl200 : sl.length ≤ 200 := by rw [← hsl, WP.S_size] at hS1; exact hS1
    have N1 := Lib.hid fun V => new_any sl V (by omega)
    have N2 := Lib.hid fun V => qnew_any sl V (by omega)
    rw [hsl] at N1 N2
    clear hsl
    refine (N1.out _).mono ?_
    rintro e w2 ⟨rfl, ha, hb2⟩
    have acc2 := bnext acc1 hb2
    have hlt := ha.lt
    obtain ⟨Pa, hPae⟩ : ∃ Pa, w1.heap.size = Pa := ⟨_, rfl⟩
    have hPa : w.heap.size ≤ Pa := by rw [← hPae]; exact acc1.size
    rw [hPae] at ha hlt ⊢
    clear hb2 N1 hPae acc1
    go_wp2_with fail
    refine (N2.out _).mono ?_
    rintro e w3 ⟨rfl, hq, hb3⟩
    have acc3 := bnext acc2 hb3
    replace ha := ha.keep hb3
    obtain ⟨Pb, hPbe⟩ : ∃ Pb, w2.heap.size = Pb := ⟨_, rfl⟩
    have hPb : w.heap.size ≤ Pb := by rw [← hPbe]; exact acc2.size
    rw [hPbe] at hq hlt ⊢
    have hne : Pa ≠ Pb := by omega
    clear hb3 N2 hPbe acc2 hlt
    go_wp2_with fail
    go_loopw [8] (fun v8 wr => ∃ k r, v8 = .int .i64 ((k : Nat) : Int) ∧ k ≤ a1.length ∧ RAt Pa r wr ∧ QAt Pb r wr ∧ Hid (r.s.length ≤ 200) ∧ Below w.heap.size w wr) (fun v _ => a1.length - (intOf v).toNat)
    case atStart => exact ⟨0, ⟨sl, 0, false⟩, rfl, Nat.zero_le _, ha, hq, Lib.hid hsl200, acc3⟩
    case round =>
      obtain ⟨k, r, rfl, hk, h1, h2, HS, acc⟩ := hrel
      by_cases h1k : k < a1.length
      · have h1i : (k : Int) < (a1.length : Int) := by omega
        by_cases h20 : k < 20
        · have h20i : (k : Int) < 20 := by omega
          obtain ⟨x, hx⟩ : ∃ x, a1[k]? = some x := ⟨_, List.getElem?_eq_getElem h1k⟩
          obtain ⟨hx0, hx1⟩ := HE.out x (List.mem_of_getElem? hx)
          obtain ⟨g, o, rfl, hg, hc⟩ := ACCR.out.resolve_left (by intro e; simp at e; subst e; simp at h1k)
          have d1 := hc k (by simpa using h1k)
          rw [show ((a1.map (Value.int .u8)).getD k (.bool false)) = .int .u8 x by simp [List.getD, hx]] at d1
          replace d1 := (acc.cell (p := ⟨g, o + k, none⟩) hg).trans d1
          have hsl := HS.out
          have hjj : x % 4 = 0 ∨ x % 4 = 1 ∨ x % 4 = 2 ∨ x % 4 = 3 := by omega
          have hj3 : True := trivial
          clear hx hc ha hq acc3 ACCR HE
          rcases hjj with hj | hj | hj | hj
          · have hm1 : x.tmod 4 = 0 := by rw [Int.tmod_eq_emod_of_nonneg hx0]; exact hj
            clear hj3
            have C1 := Lib.hid (read_any Pa r wr h1)
            have C2 := Lib.hid fun V (hV : QAt Pb r V) => qread_any Pb r V hV
            have hsr : Hid (r.int.2.s = r.s) := Lib.hid (WP.int_s r)
            generalize r.int = X at C1 C2 hsr
            obtain ⟨x, r3⟩ := X
            simp only at C1 C2 hsr
            go_wp2_with fail
            refine C1.out.mono ?_
            rintro e w1 ⟨rfl, ha1, ka1⟩
            have hq1 := qat_other h2 ka1 (fun e => hne e.symm)
            have acc1 := acc.trans (ka1.below hPa acc.size)
            clear C1 h1 h2 ka1 acc
            go_wp2_with fail
            refine (C2.out _ hq1).mono ?_
            rintro e w2 ⟨rfl, hq2, kb2⟩
            have ha2 := ha1.other kb2 hne
            have acc2 := acc1.trans (kb2.below hPb acc1.size)
            clear C2 hq1 ha1 kb2 acc1
            have lf : Hid (∀ V, RAt Pa r3 V → Calls Try.prog 15 #[.pointer (some ⟨Pa, 0, none⟩)] V fun e w' => e = .returned (.int .i64 r3.left) ∧ Below V.heap.size V w') := Lib.hid fun V hV => left_any Pa r3 V hV
            have lg : Hid (∀ V, QAt Pb r3 V → Calls Try.prog 34 #[.pointer (some ⟨Pb, 0, none⟩)] V fun e w' => e = .returned (.int .i64 r3.left) ∧ Below V.heap.size V w') := Lib.hid fun V hV => qleft_any Pb r3 V hV
            have bf : Hid (∀ V, RAt Pa r3 V → Calls Try.prog 16 #[.pointer (some ⟨Pa, 0, none⟩)] V fun e w' => e = .returned (.bool r3.bad) ∧ w' = V) := Lib.hid fun V hV => bad_any Pa r3 V hV
            have bg : Hid (∀ V, QAt Pb r3 V → Calls Try.prog 35 #[.pointer (some ⟨Pb, 0, none⟩)] V fun e w' => e = .returned (.bool r3.bad) ∧ w' = V) := Lib.hid fun V hV => qbad_any Pb r3 V hV
            have hs3 : Hid (r3.s.length ≤ 200) := Lib.hid (by rw [hsr.out]; exact hsl)
            generalize r3.left = lft at lf lg
            have hln : ((lft : Int) != (lft : Int)) = false := by simp
            obtain ⟨bd, hbd⟩ : ∃ bd, r3.bad = bd := ⟨_, rfl⟩
            rw [hbd] at bf bg
            have hbn : (bd != bd) = false := by simp
            clear hbd hsr
            go_wp2_with fail
            refine (lf.out _ ha2).mono ?_
            rintro e w4 ⟨rfl, hb4⟩
            replace ha2 := ha2.keep hb4
            replace hq2 := hq2.keep hb4
            replace acc2 := bnext acc2 hb4
            clear hb4 lf
            go_wp2_with fail
            refine (lg.out _ hq2).mono ?_
            rintro e w5 ⟨rfl, hb5⟩
            replace ha2 := ha2.keep hb5
            replace hq2 := hq2.keep hb5
            replace acc2 := bnext acc2 hb5
            clear hb5 lg
            go_wp2_with fail
            refine (bf.out _ ha2).mono ?_
            rintro e w6 ⟨rfl, rfl⟩
            go_wp2_with fail
            refine (bg.out _ hq2).mono ?_
            rintro e w7 ⟨rfl, rfl⟩
            go_wp2_with fail
            go_roundw
            case rel => exact ⟨k + 1, r3, by go_num, h1k, ha2, hq2, hs3, acc2⟩
            case measure => simp [intOf]; omega
          · have hm1 : x.tmod 4 = 1 := by rw [Int.tmod_eq_emod_of_nonneg hx0]; exact hj
            clear hj3
            have C1 := Lib.hid (rtext_any' Pa r wr h1)
            have C2 := Lib.hid fun V (hV : QAt Pb r V) => qtext_any Pb r V hV
            have hsr : Hid (r.text.2.s = r.s) := Lib.hid (text_src r)
            generalize r.text = X at C1 C2 hsr
            obtain ⟨x, r3⟩ := X
            simp only at C1 C2 hsr
            have hss := str_same (WP.S x)
            go_wp2_with fail
            refine C1.out.mono ?_
            rintro e w1 ⟨rfl, ha1, ka1⟩
            have hq1 := qat_other h2 ka1 (fun e => hne e.symm)
            have acc1 := acc.trans (ka1.below hPa acc.size)
            clear C1 h1 h2 ka1 acc
            go_wp2_with fail
            refine (C2.out _ hq1).mono ?_
            rintro e w2 ⟨rfl, hq2, kb2⟩
            have ha2 := ha1.other kb2 hne
            have acc2 := acc1.trans (kb2.below hPb acc1.size)
            clear C2 hq1 ha1 kb2 acc1
            have lf : Hid (∀ V, RAt Pa r3 V → Calls Try.prog 15 #[.pointer (some ⟨Pa, 0, none⟩)] V fun e w' => e = .returned (.int .i64 r3.left) ∧ Below V.heap.size V w') := Lib.hid fun V hV => left_any Pa r3 V hV
            have lg : Hid (∀ V, QAt Pb r3 V → Calls Try.prog 34 #[.pointer (some ⟨Pb, 0, none⟩)] V fun e w' => e = .returned (.int .i64 r3.left) ∧ Below V.heap.size V w') := Lib.hid fun V hV => qleft_any Pb r3 V hV
            have bf : Hid (∀ V, RAt Pa r3 V → Calls Try.prog 16 #[.pointer (some ⟨Pa, 0, none⟩)] V fun e w' => e = .returned (.bool r3.bad) ∧ w' = V) := Lib.hid fun V hV => bad_any Pa r3 V hV
            have bg : Hid (∀ V, QAt Pb r3 V → Calls Try.prog 35 #[.pointer (some ⟨Pb, 0, none⟩)] V fun e w' => e = .returned (.bool r3.bad) ∧ w' = V) := Lib.hid fun V hV => qbad_any Pb r3 V hV
            have hs3 : Hid (r3.s.length ≤ 200) := Lib.hid (by rw [hsr.out]; exact hsl)
            generalize r3.left = lft at lf lg
            have hln : ((lft : Int) != (lft : Int)) = false := by simp
            obtain ⟨bd, hbd⟩ : ∃ bd, r3.bad = bd := ⟨_, rfl⟩
            rw [hbd] at bf bg
            have hbn : (bd != bd) = false := by simp
            clear hbd hsr
            go_wp2_with fail
            refine (lf.out _ ha2).mono ?_
            rintro e w4 ⟨rfl, hb4⟩
            replace ha2 := ha2.keep hb4
            replace hq2 := hq2.keep hb4
            replace acc2 := bnext acc2 hb4
            clear hb4 lf
            go_wp2_with fail
            refine (lg.out _ hq2).mono ?_
            rintro e w5 ⟨rfl, hb5⟩
            replace ha2 := ha2.keep hb5
            replace hq2 := hq2.keep hb5
            replace acc2 := bnext acc2 hb5
            clear hb5 lg
            go_wp2_with fail
            refine (bf.out _ ha2).mono ?_
            rintro e w6 ⟨rfl, rfl⟩
            go_wp2_with fail
            refine (bg.out _ hq2).mono ?_
            rintro e w7 ⟨rfl, rfl⟩
            go_wp2_with fail
            go_roundw
            case rel => exact ⟨k + 1, r3, by go_num, h1k, ha2, hq2, hs3, acc2⟩
            case measure => simp [intOf]; omega
          · have hm1 : x.tmod 4 = 2 := by rw [Int.tmod_eq_emod_of_nonneg hx0]; exact hj
            clear hj3
            have C1 := Lib.hid (ints_read Pa r wr h1 (by omega))
            have C2 := Lib.hid fun V (hV : QAt Pb r V) => qints_any Pb r V hV (by omega)
            have hsr : Hid (r.ints.2.s = r.s) := Lib.hid (elements_src WP.RS.int WP.int_s r)
            generalize r.ints = X at C1 C2 hsr
            obtain ⟨L, r3⟩ := X
            simp only at C1 C2 hsr
            go_wp2_with fail
            refine C1.out.mono ?_
            rintro e w1 ⟨v1, rfl, o1, ha1, ka1⟩
            have hq1 := qat_other h2 ka1 (fun e => hne e.symm)
            have acc1 := acc.trans (ka1.below hPa acc.size)
            have hl1 := own_max o1
            obtain ⟨p1, c1, rfl⟩ := own_shape o1
            have hPb1 : Pb < wr.heap.size := h2.lt
            clear C1 h1 h2 acc
            go_wp2_with fail
            refine (C2.out _ hq1).mono ?_
            rintro e w2 ⟨v2, rfl, o2, hq2, kb2⟩
            have ha2 := ha1.other kb2 hne
            have acc2 := acc1.trans (kb2.below hPb acc1.size)
            have o1' := own_kept o1 hPb1 kb2
            have S := Lib.hid (same_ints _ _ L w2 (row_own o1' (by rw [List.length_map])) (row_own o2 (by rw [List.length_map])) (by unfold maxLen at hl1; omega))
            obtain ⟨p2, c2, rfl⟩ := own_shape o2
            clear C2 hq1 ha1 kb2 acc1 o1 o2 o1' ka1
            go_wp2_with fail
            refine S.out.mono ?_
            rintro e w3 ⟨rfl, hb3⟩
            replace ha2 := ha2.keep hb3
            replace hq2 := hq2.keep hb3
            replace acc2 := bnext acc2 hb3
            clear hb3 S
            have lf : Hid (∀ V, RAt Pa r3 V → Calls Try.prog 15 #[.pointer (some ⟨Pa, 0, none⟩)] V fun e w' => e = .returned (.int .i64 r3.left) ∧ Below V.heap.size V w') := Lib.hid fun V hV => left_any Pa r3 V hV
            have lg : Hid (∀ V, QAt Pb r3 V → Calls Try.prog 34 #[.pointer (some ⟨Pb, 0, none⟩)] V fun e w' => e = .returned (.int .i64 r3.left) ∧ Below V.heap.size V w') := Lib.hid fun V hV => qleft_any Pb r3 V hV
            have bf : Hid (∀ V, RAt Pa r3 V → Calls Try.prog 16 #[.pointer (some ⟨Pa, 0, none⟩)] V fun e w' => e = .returned (.bool r3.bad) ∧ w' = V) := Lib.hid fun V hV => bad_any Pa r3 V hV
            have bg : Hid (∀ V, QAt Pb r3 V → Calls Try.prog 35 #[.pointer (some ⟨Pb, 0, none⟩)] V fun e w' => e = .returned (.bool r3.bad) ∧ w' = V) := Lib.hid fun V hV => qbad_any Pb r3 V hV
            have hs3 : Hid (r3.s.length ≤ 200) := Lib.hid (by rw [hsr.out]; exact hsl)
            generalize r3.left = lft at lf lg
            have hln : ((lft : Int) != (lft : Int)) = false := by simp
            obtain ⟨bd, hbd⟩ : ∃ bd, r3.bad = bd := ⟨_, rfl⟩
            rw [hbd] at bf bg
            have hbn : (bd != bd) = false := by simp
            clear hbd hsr
            go_wp2_with fail
            refine (lf.out _ ha2).mono ?_
            rintro e w4 ⟨rfl, hb4⟩
            replace ha2 := ha2.keep hb4
            replace hq2 := hq2.keep hb4
            replace acc2 := bnext acc2 hb4
            clear hb4 lf
            go_wp2_with fail
            refine (lg.out _ hq2).mono ?_
            rintro e w5 ⟨rfl, hb5⟩
            replace ha2 := ha2.keep hb5
            replace hq2 := hq2.keep hb5
            replace acc2 := bnext acc2 hb5
            clear hb5 lg
            go_wp2_with fail
            refine (bf.out _ ha2).mono ?_
            rintro e w6 ⟨rfl, rfl⟩
            go_wp2_with fail
            refine (bg.out _ hq2).mono ?_
            rintro e w7 ⟨rfl, rfl⟩
            go_wp2_with fail
            go_roundw
            case rel => exact ⟨k + 1, r3, by go_num, h1k, ha2, hq2, hs3, acc2⟩
            case measure => simp [intOf]; omega
          · have hm1 : x.tmod 4 = 3 := by rw [Int.tmod_eq_emod_of_nonneg hx0]; exact hj
            clear hj3
            have C1 := Lib.hid (texts_read Pa r wr h1 (by omega))
            have C2 := Lib.hid fun V (hV : QAt Pb r V) => qtexts_any Pb r V hV (by omega)
            have hsr : Hid (r.texts.2.s = r.s) := Lib.hid (elements_src WP.RS.text text_src r)
            generalize r.texts = X at C1 C2 hsr
            obtain ⟨L, r3⟩ := X
            simp only at C1 C2 hsr
            go_wp2_with fail
            refine C1.out.mono ?_
            rintro e w1 ⟨v1, rfl, o1, ha1, ka1⟩
            have hq1 := qat_other h2 ka1 (fun e => hne e.symm)
            have acc1 := acc.trans (ka1.below hPa acc.size)
            have hl1 := own_max o1
            obtain ⟨p1, c1, rfl⟩ := own_shape o1
            have hPb1 : Pb < wr.heap.size := h2.lt
            clear C1 h1 h2 acc
            go_wp2_with fail
            refine (C2.out _ hq1).mono ?_
            rintro e w2 ⟨v2, rfl, o2, hq2, kb2⟩
            have ha2 := ha1.other kb2 hne
            have acc2 := acc1.trans (kb2.below hPb acc1.size)
            have o1' := own_kept o1 hPb1 kb2
            have S := Lib.hid (same_texts _ _ L w2 (row_own o1' (by rw [List.length_map])) (row_own o2 (by rw [List.length_map])) (by unfold maxLen at hl1; omega))
            obtain ⟨p2, c2, rfl⟩ := own_shape o2
            clear C2 hq1 ha1 kb2 acc1 o1 o2 o1' ka1
            go_wp2_with fail
            refine S.out.mono ?_
            rintro e w3 ⟨rfl, hb3⟩
            replace ha2 := ha2.keep hb3
            replace hq2 := hq2.keep hb3
            replace acc2 := bnext acc2 hb3
            clear hb3 S
            have lf : Hid (∀ V, RAt Pa r3 V → Calls Try.prog 15 #[.pointer (some ⟨Pa, 0, none⟩)] V fun e w' => e = .returned (.int .i64 r3.left) ∧ Below V.heap.size V w') := Lib.hid fun V hV => left_any Pa r3 V hV
            have lg : Hid (∀ V, QAt Pb r3 V → Calls Try.prog 34 #[.pointer (some ⟨Pb, 0, none⟩)] V fun e w' => e = .returned (.int .i64 r3.left) ∧ Below V.heap.size V w') := Lib.hid fun V hV => qleft_any Pb r3 V hV
            have bf : Hid (∀ V, RAt Pa r3 V → Calls Try.prog 16 #[.pointer (some ⟨Pa, 0, none⟩)] V fun e w' => e = .returned (.bool r3.bad) ∧ w' = V) := Lib.hid fun V hV => bad_any Pa r3 V hV
            have bg : Hid (∀ V, QAt Pb r3 V → Calls Try.prog 35 #[.pointer (some ⟨Pb, 0, none⟩)] V fun e w' => e = .returned (.bool r3.bad) ∧ w' = V) := Lib.hid fun V hV => qbad_any Pb r3 V hV
            have hs3 : Hid (r3.s.length ≤ 200) := Lib.hid (by rw [hsr.out]; exact hsl)
            generalize r3.left = lft at lf lg
            have hln : ((lft : Int) != (lft : Int)) = false := by simp
            obtain ⟨bd, hbd⟩ : ∃ bd, r3.bad = bd := ⟨_, rfl⟩
            rw [hbd] at bf bg
            have hbn : (bd != bd) = false := by simp
            clear hbd hsr
            go_wp2_with fail
            refine (lf.out _ ha2).mono ?_
            rintro e w4 ⟨rfl, hb4⟩
            replace ha2 := ha2.keep hb4
            replace hq2 := hq2.keep hb4
            replace acc2 := bnext acc2 hb4
            clear hb4 lf
            go_wp2_with fail
            refine (lg.out _ hq2).mono ?_
            rintro e w5 ⟨rfl, hb5⟩
            replace ha2 := ha2.keep hb5
            replace hq2 := hq2.keep hb5
            replace acc2 := bnext acc2 hb5
            clear hb5 lg
            go_wp2_with fail
            refine (bf.out _ ha2).mono ?_
            rintro e w6 ⟨rfl, rfl⟩
            go_wp2_with fail
            refine (bg.out _ hq2).mono ?_
            rintro e w7 ⟨rfl, rfl⟩
            go_wp2_with fail
            go_roundw
            case rel => exact ⟨k + 1, r3, by go_num, h1k, ha2, hq2, hs3, acc2⟩
            case measure => simp [intOf]; omega
        · have h20i : ¬ (k : Int) < 20 := by omega
          go_wp2_with fail
          go_ret
          exact ⟨rfl, acc⟩
      · have h1i : ¬ (k : Int) < (a1.length : Int) := by omega
        go_wp2_with fail
        go_ret
        exact ⟨rfl, acc⟩

set_option maxRecDepth 100000 in
theorem lifted (os : Os) (started : os.Started) (H : Type) (enc : TypeId × Value → H) :
    ReturnsInHanded {} Try.checked os 5 .any (Rows.wireReadsSpec.pre6 enc Try.prog Try.f5 Rows.wireReadsRow.domain false) (Rows.wireReadsSpec.post enc Try.prog Try.f5 false true false false) := by
  refine returnsInHanded_of_change (C := Try.checked) own started (by kernel_rfl) Try.func5
    (ChangeSpec.witness6 (enc := enc) (C := Try.checked) false ⟨#[], #[.string ByteArray.empty, .slice none 0 0], []⟩ 8 (by kernel_rfl) (by kernel_rfl) (by kernel_rfl) (by kernel_rfl)) ?_
  intro W base args ds gs before hval0 hW hcnd _
  have hval : ∀ (j : Nat) t v, Try.f5.params[j]? = some t → args[j]? = some v → Value.okWide Try.prog W .any base t v := hval0
  have hW' := hW
  obtain ⟨p, q, hA0, hV, rfl, hfz, hnd⟩ := hW
  have hA : DataW.TrodAll enc Try.prog W 0 (fun _ => true) true Try.f5.params.toList args.toList ds p := hA0
  rw [Try.params5] at hA hval
  obtain ⟨v0, vs0, d0, ds0, p0, q0, hargs, rfl, rfl, h0, r0⟩ := trodAll_cons hA
  obtain ⟨v1, vs1, d1, ds1, p1, q1, rfl, rfl, rfl, h1, r1⟩ := trodAll_cons r0
  obtain ⟨rfl, rfl, rfl⟩ := trodAll_nil r1
  obtain rfl : args = #[v0, v1] := by cases args; simp_all
  obtain ⟨rfl, rfl⟩ := trodVars_none hV
  have k0 := h0
  have lt0 : ∀ x ∈ p0, x.block < W.heap.size := by obtain ⟨m, hm⟩ := k0; exact DataW.trod_lt m _ _ _ hm
  have k1 := h1
  have lt1 : ∀ x ∈ p1, x.block < W.heap.size := by obtain ⟨m, hm⟩ := k1; exact DataW.trod_lt m _ _ _ hm
  obtain ⟨a0, rfl, rfl, rfl, wa0⟩ := open_string Try.underlying9 (hval 0 9 v0 rfl rfl) h0
  obtain ⟨a1, H1, L1, E1⟩ := open_b (hval 1 35 v1 rfl rfl) h1
  clear hA0 hval0
  refine (walk a0 v1 a1 wa0 W H1 L1 E1).mono fun e W' ⟨he, bel⟩ => ?_
  subst he
  exact ⟨_, rfl, _, _, _, [], _, [], hW', trodAll_mk1 (shut_bool Try.underlying4 _), (trodAll_cons_mk (Below.trod laidOut (by kernel_rfl) (of_decide_eq_true (by kernel_rfl)) k0 bel lt0) (trodAll_cons_mk (Below.trod laidOut (by kernel_rfl) (of_decide_eq_true (by kernel_rfl)) k1 bel lt1) trodAll_mk0)), rfl, bel.frame _, fun h => by cases h⟩

theorem over : Rows.wireReadsRow.holds Try.pinned (OpenSpec.ofChange Rows.wireReadsSpec) :=
  OpenClaim.holds_of_wide 5 Try.f5 rfl rfl rfl rfl rfl rfl rfl ⟨rfl, rfl, rfl, rfl, rfl⟩ rfl rfl rfl rfl rfl (by kernel_rfl) Try.func5 (by kernel_rfl)
    (of_decide_eq_true (by kernel_rfl)) (by unfold Func.isWrapper; first | (rw [if_pos (by decide +kernel)]; kernel_rfl) | (rw [if_neg (by decide +kernel)]; exact ⟨rfl, rfl⟩))
    (fun os started H enc _ => lifted os started H enc)

end Go.Proofs.Ytkakjpkgbbpjdaa.wireReads
namespace Go.Proofs.Ytkakjpkgbbpjdaa
theorem wireReads_proved : Rows.WireReadsSaid := wireReads.over
#print axioms wireReads_proved
end Go.Proofs.Ytkakjpkgbbpjdaa
