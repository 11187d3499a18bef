/- Whether all numbers of glyphs are small: the program's areSmall, the reference's right. No conditions. -/
import Derived.Test.YtpmmincophaaiaaAttROwn
namespace Go.Proofs.Ytpmmincophaaiaa.AT
set_option maxRecDepth 100000
theorem all_false {l : List Dr} {i : Nat} {d : Dr} (h : l[i]? = some d) (hr : right d = false) : l.all right = false := by
  rw [List.all_eq_false]
  exact ⟨d, List.mem_of_getElem? h, by rw [hr]; simp⟩
theorem all_true {l : List Dr} (h : ∀ (j : Nat) (d : Dr), l[j]? = some d → right d = true) : l.all right = true := by
  rw [List.all_eq_true]
  intro d hd
  obtain ⟨j, hj, rfl⟩ := List.getElem_of_mem hd
  exact h j _ (List.getElem?_eq_getElem hj)
theorem right_of {d : Dr} (h1 : small d.adv = true) (h2 : (small d.hang.2.1 && small d.hang.2.2) = true) (h3 : ∀ (j : Nat) (a : An), d.anchors[j]? = some a → anOk a = true) : right d = true := by
  unfold right
  rw [h1, h2]
  have : d.anchors.all anOk = true := by
    rw [List.all_eq_true]
    intro a ha
    obtain ⟨j, hj, rfl⟩ := List.getElem_of_mem ha
    exact h3 j _ (List.getElem?_eq_getElem hj)
  rw [this]
  rfl
theorem right_not {d : Dr} (h : small d.adv = false ∨ (small d.hang.2.1 && small d.hang.2.2) = false ∨ ∃ (j : Nat) (a : An), d.anchors[j]? = some a ∧ anOk a = false) : right d = false := by
  unfold right
  rcases h with h | h | ⟨j, a, ha, h⟩
  · rw [h]; simp
  · rw [h]; simp
  · have : d.anchors.all anOk = false := by
      rw [List.all_eq_false]
      exact ⟨a, List.mem_of_getElem? ha, by rw [h]; simp⟩
    rw [this]
    rfl
end Go.Proofs.Ytpmmincophaaiaa.AT
namespace Go.Proofs.Ytpmmincophaaiaa
set_option maxRecDepth 100000
set_option linter.unusedVariables false
open Go.RowKit Go.Deep
theorem isSmall_c {x y : Int} {r : Bool} (h : (AT.small x && AT.small y) = r) (w : World) : Calls Try.prog 22 #[.agg #[.int .i64 x, .int .i64 y]] w fun e w' => e = .returned (.bool r) ∧ Below w.heap.size w w' := by
  have := isSmall_any x y w
  rwa [h] at this
/-- A glyph in a block of its own. -/
def DrB (V : World) (g : Nat) (vc va : Value) (d : AT.Dr) : Prop := V.heap[g]? = some (.cells #[vc, va, .int .i64 d.hang.1, .int .i64 d.hang.2.1, .int .i64 d.hang.2.2, .int .i64 d.adv] 35 (0, 0))
theorem DrB.lt {V : World} {g : Nat} {vc va : Value} {d : AT.Dr} (h : DrB V g vc va d) : g < V.heap.size := (Array.getElem?_eq_some_iff.1 h).1
theorem DrB.keep {V V' : World} {g : Nat} {vc va : Value} {d : AT.Dr} (h : DrB V g vc va d) (hb : Below V.heap.size V V') : DrB V' g vc va d := (hb.block g h.lt).trans h
theorem DrB.cells {V : World} {g : Nat} {vc va : Value} {d : AT.Dr} (h : DrB V g vc va d) : V.cell? ⟨g, 0, none⟩ = some vc ∧ V.cell? ⟨g, 1, none⟩ = some va ∧ V.cell? ⟨g, 2, none⟩ = some (.int .i64 d.hang.1) ∧ V.cell? ⟨g, 3, none⟩ = some (.int .i64 d.hang.2.1) ∧ V.cell? ⟨g, 4, none⟩ = some (.int .i64 d.hang.2.2) ∧ V.cell? ⟨g, 5, none⟩ = some (.int .i64 d.adv) := by
  unfold DrB at h
  refine ⟨?_, ?_, ?_, ?_, ?_, ?_⟩ <;> simp [World.cell?, h]
set_option maxHeartbeats 4000000 in
theorem areSmall_any (l : List AT.Dr) (v : Value) (w : World) (hl : l.length ≤ 1000000000000) (hk : ∀ d ∈ l, d.anchors.length ≤ 1000000000000) (hv : DsAt w v l) :
    Calls Try.prog 18 #[v] w fun e w' => e = .returned (.bool (l.all AT.right)) ∧ Below w.heap.size w w' := by
  obtain ⟨a, cap, rfl, hc⟩ := hv
  obtain ⟨n, hn⟩ : ∃ n, l.length = n := ⟨_, rfl⟩
  have HN := Lib.hid hn
  rw [hn] at hl ⊢
  have HC := Lib.hid hc
  have HK := Lib.hid hk
  clear hc hn hk
  go_enter Try.func18, Try.ntmps18
  go_wp2_with fail
  go_loopw [9] (fun v wr => ∃ i : Nat, v = .int .i64 (i : Int) ∧ i ≤ n ∧ (∀ (j : Nat) (d : AT.Dr), j < i → l[j]? = some d → AT.right d = true) ∧ Below w.heap.size w wr) (fun v _ => n - (intOf v).toNat)
  case atStart => exact ⟨0, rfl, Nat.zero_le _, fun j b hj => absurd hj (Nat.not_lt_zero _), Below.refl _ _⟩
  case round =>
    obtain ⟨i, rfl, hi, hyes, hb⟩ := hrel
    have HY := Lib.hid hyes
    have HB := Lib.hid hb
    by_cases hin : i < n
    · have hii : (i : Int) < (n : Int) := by omega
      have hi0 : (0 : Int) ≤ (i : Int) := by omega
      obtain ⟨d, hd⟩ : ∃ d, l[i]? = some d := ⟨l[i]'(by rw [HN.out]; exact hin), List.getElem?_eq_getElem _⟩
      rcases HC.out with h | ⟨g, o, rfl, hg, hcl⟩
      · subst h
        simp at hd
      obtain ⟨ca, cn, cc, va, ha, c0, c1, c2, c3, c4, c5⟩ := hcl i d hd
      obtain ⟨aa, ac, rfl, hal⟩ := ha
      obtain ⟨m, hm⟩ : ∃ m, d.anchors.length = m := ⟨_, rfl⟩
      have HM := Lib.hid hm
      rw [hm] at c1
      replace c0 := (hb.cell (p := ⟨g, o + i * 6, none⟩) hg).trans c0
      replace c1 := (hb.cell (p := ⟨g, o + i * 6 + 1, none⟩) hg).trans c1
      replace c2 := (hb.cell (p := ⟨g, o + i * 6 + 2, none⟩) hg).trans c2
      replace c3 := (hb.cell (p := ⟨g, o + i * 6 + 3, none⟩) hg).trans c3
      replace c4 := (hb.cell (p := ⟨g, o + i * 6 + 4, none⟩) hg).trans c4
      replace c5 := (hb.cell (p := ⟨g, o + i * 6 + 5, none⟩) hg).trans c5
      have HA : Hid (AnAt wr (.slice aa d.anchors.length ac) d.anchors) := Lib.hid (AnAt.keep ⟨aa, ac, rfl, hal⟩ hb)
      rw [hm] at HA
      have HD := Lib.hid hd
      have HKD := Lib.hid (HK.out d (List.mem_of_getElem? hd))
      obtain ⟨r1, hr1⟩ : ∃ r1, AT.small d.adv = r1 := ⟨_, rfl⟩
      obtain ⟨r2, hr2⟩ : ∃ r2, (AT.small d.hang.2.1 && AT.small d.hang.2.2) = r2 := ⟨_, rfl⟩
      have C1 := Lib.hid (fun V => isSmall_c (x := d.adv) (y := 0) (r := r1) (by rw [hr1]; cases r1 <;> rfl) V)
      have C2 := Lib.hid (fun V => isSmall_c hr2 V)
      have HR1 := Lib.hid hr1
      have HR2 := Lib.hid hr2
      clear hcl hyes hb hd hal hm hr1 hr2
      go_wp2_with fail
      have hdb : DrB (wr.alloc (.cells #[.slice ca cn cc, .slice aa m ac, .int .i64 d.hang.1, .int .i64 d.hang.2.1, .int .i64 d.hang.2.2, .int .i64 d.adv] 35)) wr.heap.size (.slice ca cn cc) (.slice aa m ac) d := heap_alloc_new wr _
      have hb1 := balloc HB.out (.cells #[.slice ca cn cc, .slice aa m ac, .int .i64 d.hang.1, .int .i64 d.hang.2.1, .int .i64 d.hang.2.2, .int .i64 d.adv] 35)
      have ha1 := HA.out.keep (balloc (Below.refl _ wr) (.cells #[.slice ca cn cc, .slice aa m ac, .int .i64 d.hang.1, .int .i64 d.hang.2.1, .int .i64 d.hang.2.2, .int .i64 d.adv] 35))
      obtain ⟨W1, hW1⟩ : ∃ W1, wr.alloc (.cells #[.slice ca cn cc, .slice aa m ac, .int .i64 d.hang.1, .int .i64 d.hang.2.1, .int .i64 d.hang.2.2, .int .i64 d.adv] 35) = W1 := ⟨_, rfl⟩
      obtain ⟨G, hG⟩ : ∃ G, wr.heap.size = G := ⟨_, rfl⟩
      rw [hW1] at hdb hb1 ha1 ⊢
      rw [hG] at hdb ⊢
      clear hW1 hG HA c0 c1 c2 c3 c4 c5
      have HDB := Lib.hid hdb
      have HB1 := Lib.hid hb1
      have HA1 := Lib.hid ha1
      clear hdb hb1 ha1
      refine (C1.out _).mono ?_
      rintro e W2 ⟨rfl, k2⟩
      have HDB2 := Lib.hid (HDB.out.keep k2)
      have HB2 := Lib.hid (bnext HB1.out k2)
      have HA2 := Lib.hid (HA1.out.keep k2)
      obtain ⟨d0, d1, d2, d3, d4, d5⟩ := HDB2.out.cells
      clear k2 HDB HB1 HA1
      cases r1 with
      | false =>
        have HV := Lib.hid (AT.all_false HD.out (AT.right_not (.inl HR1.out)))
        go_wp2
        go_ret
        exact ⟨by rw [HV.out]; rfl, HB2.out⟩
      | true =>
        go_wp2_with fail
        refine (C2.out _).mono ?_
        rintro e W3 ⟨rfl, k3⟩
        have HDB3 := Lib.hid (HDB2.out.keep k3)
        have HB3 := Lib.hid (bnext HB2.out k3)
        have HA3 := Lib.hid (HA2.out.keep k3)
        clear k3 HDB2 HB2 HA2 d0 d1 d2 d3 d4 d5
        obtain ⟨d0, d1, d2, d3, d4, d5⟩ := HDB3.out.cells
        cases r2 with
        | false =>
          have HV := Lib.hid (AT.all_false HD.out (AT.right_not (.inr (.inl HR2.out))))
          go_wp2
          go_ret
          exact ⟨by rw [HV.out]; rfl, HB3.out⟩
        | true =>
          go_wp2_with fail
          clear d0 d1 d2 d3 d4 d5
          have hm12 : m ≤ 1000000000000 := by have := HKD.out; rw [HM.out] at this; exact this
          go_loopw [32] (fun v wq => ∃ k : Nat, v = .int .i64 (k : Int) ∧ k ≤ m ∧ (∀ (j : Nat) (b : AT.An), j < k → d.anchors[j]? = some b → AT.anOk b = true) ∧ Below W3.heap.size W3 wq) (fun v _ => m - (intOf v).toNat)
          case atStart => exact ⟨0, rfl, Nat.zero_le _, fun j b hj => absurd hj (Nat.not_lt_zero _), Below.refl _ _⟩
          case round =>
            obtain ⟨k, rfl, hk, hok, hb⟩ := hrel
            have HOK := Lib.hid hok
            have HBQ := Lib.hid hb
            by_cases hkm : k < m
            · have hki : (k : Int) < (m : Int) := by omega
              have hk0 : (0 : Int) ≤ (k : Int) := by omega
              obtain ⟨z, hz⟩ : ∃ z, d.anchors[k]? = some z := ⟨d.anchors[k]'(by rw [HM.out]; exact hkm), List.getElem?_eq_getElem _⟩
              obtain ⟨ab, ac', e1, hal⟩ := HA3.out
              rw [HM.out] at e1
              injection e1 with e1 e2 e3
              subst e1 e3
              rcases hal with h | ⟨g', o', rfl, hg', hcl'⟩
              · rw [h] at hz
                simp at hz
              obtain ⟨c1, c2, c3⟩ := hcl' k z hz
              replace c1 := (hb.cell (p := ⟨g', o' + k * 3, none⟩) hg').trans c1
              replace c2 := (hb.cell (p := ⟨g', o' + k * 3 + 1, none⟩) hg').trans c2
              replace c3 := (hb.cell (p := ⟨g', o' + k * 3 + 2, none⟩) hg').trans c3
              obtain ⟨r3, hr3⟩ : ∃ r3, (AT.small z.2.1 && AT.small z.2.2) = r3 := ⟨_, rfl⟩
              have C3 := Lib.hid (fun V => isSmall_c hr3 V)
              have HR3 : Hid (AT.anOk z = r3) := Lib.hid hr3
              have HZI := Lib.hid hz
              clear hcl' hok hb hz hr3
              go_wp2_with fail
              refine (C3.out _).mono ?_
              rintro e W4 ⟨rfl, k4⟩
              have HB4 := Lib.hid (bnext (balloc HBQ.out _) k4)
              clear k4
              cases r3 with
              | false =>
                have HV := Lib.hid (AT.all_false HD.out (AT.right_not (.inr (.inr ⟨k, z, HZI.out, HR3.out⟩))))
                go_wp2
                go_ret
                exact ⟨by rw [HV.out]; rfl, bnext HB3.out HB4.out⟩
              | true =>
                go_wp2
                go_roundw
                case rel =>
                  refine ⟨k + 1, by go_num, hkm, fun j b hj hb' => ?_, HB4.out⟩
                  by_cases hjk : j = k
                  · subst hjk
                    rw [HZI.out] at hb'
                    obtain rfl := Option.some.inj hb'
                    exact HR3.out
                  · exact HOK.out j b (by omega) hb'
                case measure => simp [intOf]; omega
            · obtain rfl : k = m := by omega
              have HRD := Lib.hid (AT.right_of HR1.out HR2.out fun j b hb' => HOK.out j b (by have := (List.getElem?_eq_some_iff.1 hb').1; rw [HM.out] at this; exact this) hb')
              clear hok hb
              go_wp2
              go_roundw
              case rel =>
                refine ⟨i + 1, by go_num, hin, fun j b hj hb' => ?_, bnext HB3.out HBQ.out⟩
                by_cases hji : j = i
                · subst hji
                  rw [HD.out] at hb'
                  obtain rfl := Option.some.inj hb'
                  exact HRD.out
                · exact HY.out j b (by omega) hb'
              case measure => simp [intOf]; omega
    · obtain rfl : i = n := by omega
      have HV : Hid (l.all AT.right = true) := Lib.hid (AT.all_true fun j d hd => HY.out j d (by have := (List.getElem?_eq_some_iff.1 hd).1; rw [HN.out] at this; exact this) hd)
      clear hyes hb
      go_wp2
      go_ret
      exact ⟨by rw [HV.out]; rfl, HB.out⟩
end Go.Proofs.Ytpmmincophaaiaa
