/- The glyph that carries a mark, of the reference. No conditions. -/
import Derived.Test.YtpmmincophaaiaaAttRight
import Derived.Deep.CutRange
namespace Go.Proofs.Ytpmmincophaaiaa.AT
set_option maxRecDepth 100000
theorem carrier_yes {l : List Dr} {c : Int} {i : Nat} {d : Dr} {a : An} (hd : l[i]? = some d) (h : ownV d.anchors c = (a, true)) : carrier l c (i + 1) = some (i, a) := by
  have ho : own d.anchors c = some a := by
    unfold ownV at h
    cases hh : own d.anchors c with
    | none => rw [hh] at h; simp at h
    | some b => rw [hh] at h; simp at h; rw [h]
  rw [carrier, hd]
  simp [ho]
theorem carrier_no {l : List Dr} {c : Int} {i : Nat} {d : Dr} {a : An} (hd : l[i]? = some d) (h : ownV d.anchors c = (a, false)) : carrier l c (i + 1) = carrier l c i := by
  have ho : own d.anchors c = none := by
    unfold ownV at h
    cases hh : own d.anchors c with
    | none => rfl
    | some b => rw [hh] at h; simp at h
  rw [carrier, hd]
  simp [ho]
/-- What Carrier answers. -/
def carV (l : List Dr) (c : Int) (k : Nat) : Int × An := if c = 0 then (-1, (0, 0, 0)) else match carrier l c k with
  | some (j, a) => ((j : Int), a)
  | none => (-1, (0, 0, 0))
theorem carV_zero (l : List Dr) (k : Nat) : carV l 0 k = (-1, (0, 0, 0)) := rfl
theorem carV_some {l : List Dr} {c : Int} {k j : Nat} {a : An} (hc : ¬ c = 0) (h : carrier l c k = some (j, a)) : carV l c k = ((j : Int), a) := by
  unfold carV
  rw [if_neg hc, h]
theorem carV_none {l : List Dr} {c : Int} {k : Nat} (hc : ¬ c = 0) (h : carrier l c k = none) : carV l c k = (-1, (0, 0, 0)) := by
  unfold carV
  rw [if_neg hc, h]
end Go.Proofs.Ytpmmincophaaiaa.AT
namespace Go.Proofs.Ytpmmincophaaiaa
set_option maxRecDepth 100000
set_option linter.unusedVariables false
open Go.RowKit Go.Deep
theorem result_an2 {fn : Func} {p u : Tmp} (h : fn.results = #[.tmp u, .cell p 33]) (tmps : Array Value) (W : World) (g : Nat) (a : AT.An) (t : TypeId) (hp : tmps.getD p undef = .pointer (some ⟨g, 0, none⟩)) (hg : W.heap[g]? = some (.cells #[.int .i64 a.1, .int .i64 a.2.1, .int .i64 a.2.2] t (0, 0))) :
    (results fn tmps).run Try.prog W = .ok (.tuple #[tmps.getD u undef, anV a]) W := by
  have := run_loadVar_row (P := Try.prog) W g t 33 #[.int .i64 a.1, .int .i64 a.2.1, .int .i64 a.2.2] (0, 0) _ hg Try.underlying33 rfl (by kernel_rfl)
  have hp' : tmps[p]?.getD undef = .pointer (some ⟨g, 0, none⟩) := by simpa using hp
  simp [results, h, hp', asAddr, this, anV, Sem.run_bind]
set_option maxHeartbeats 4000000 in
theorem rcarrier_any (l : List AT.Dr) (v : Value) (k : Nat) (d : AT.Dr) (w : World) (hl : l.length ≤ 1000000000000) (hk : ∀ d ∈ l, d.anchors.length ≤ 1000000000000) (hd : l[k]? = some d) (hv : DsAt w v l) :
    Calls Try.prog 21 #[v, .int .i64 (k : Int)] w fun e w' => e = .returned (.tuple #[.int .i64 (AT.carV l d.hang.1 k).1, anV (AT.carV l d.hang.1 k).2]) ∧ Below w.heap.size w w' := by
  obtain ⟨a, cap, rfl, hc⟩ := hv
  have hkl : k < l.length := (List.getElem?_eq_some_iff.1 hd).1
  obtain ⟨n, hn⟩ : ∃ n, l.length = n := ⟨_, rfl⟩
  have HN := Lib.hid hn
  rw [hn] at hl hkl ⊢
  rcases hc with h | ⟨g, o, rfl, hg, hcl⟩
  · subst h
    simp at hd
  have HCL := Lib.hid hcl
  have HK := Lib.hid hk
  have hkl' : (k : Int) < (n : Int) := by omega
  have hk0 : (0 : Int) ≤ (k : Int) := by omega
  obtain ⟨c, hcc⟩ : ∃ c, d.hang.1 = c := ⟨_, rfl⟩
  rw [hcc]
  have HCS : Hid (∀ V, Below w.heap.size w V → V.cell? ⟨g, o + k * 6 + 2, none⟩ = some (.int .i64 c)) := Lib.hid fun V hV => by
    obtain ⟨ca, cn, cc, va, ha, c0, c1, c2, c3, c4, c5⟩ := hcl k d hd
    rw [← hcc]
    exact (hV.cell (p := ⟨g, o + k * 6 + 2, none⟩) hg).trans c2
  have hz0 : AnB (w.alloc (.cells #[.int .i64 0, .int .i64 0, .int .i64 0] 33)) w.heap.size (0, 0, 0) := heap_alloc_new w _
  have hb0 := balloc (Below.refl _ w) (.cells #[.int .i64 0, .int .i64 0, .int .i64 0] 33)
  have hcs0 := HCS.out _ hb0
  have hRR := Nat.le_refl w.heap.size
  clear hcl hk hn hcc hd
  go_enter Try.func21, Try.ntmps21
  go_upto_region 1 with fail
  obtain ⟨W0, hW0⟩ : ∃ W0, w.alloc (.cells #[.int .i64 0, .int .i64 0, .int .i64 0] 33) = W0 := ⟨_, rfl⟩
  obtain ⟨R, hR⟩ : ∃ R, w.heap.size = R := ⟨_, rfl⟩
  rw [hW0] at hz0 hb0 hcs0 ⊢
  have HB0 := Lib.hid hb0
  rw [hR] at hz0 ⊢
  have HR := Lib.hid hR
  have HZ := Lib.hid hz0
  have hwR : w.heap.size ≤ R := by omega
  clear hW0 hR hb0 hz0 hRR
  have PUT : Hid (∀ (V : World) (b : AT.An), Below W0.heap.size W0 V → AnB (((V.setCell ⟨R, 0, none⟩ (.int .i64 b.1)).setCell ⟨R, 1, none⟩ (.int .i64 b.2.1)).setCell ⟨R, 2, none⟩ (.int .i64 b.2.2)) R b ∧ Below w.heap.size w (((V.setCell ⟨R, 0, none⟩ (.int .i64 b.1)).setCell ⟨R, 1, none⟩ (.int .i64 b.2.1)).setCell ⟨R, 2, none⟩ (.int .i64 b.2.2))) := Lib.hid fun V b hV => ⟨(HZ.out.keep hV).put b, bset (bset (bset (bnext HB0.out hV) hwR _) hwR _) hwR _⟩
  by_cases hc0 : c = 0
  · have hq : (c == 0) = true := by simpa using hc0
    obtain ⟨y1, y2, y3⟩ := HZ.out.cells
    have f0 := HZ.out.frozen 0
    have f1 := HZ.out.frozen 1
    have f2 := HZ.out.frozen 2
    have hp := PUT.out W0 (0, 0, 0) (Below.refl _ _)
    have HP := Lib.hid hp
    have HV : Hid (AT.carV l c k = (-1, (0, 0, 0))) := Lib.hid (by rw [hc0]; rfl)
    clear hp hc0
    go_wp2_with fail
    refine bodyPost_ret (result_an2 Try.results21 _ _ R (0, 0, 0) _ rfl HP.out.1) rfl ?_
    exact ⟨by rw [HV.out]; rfl, HP.out.2⟩
  · have hq : (c == 0) = false := by simpa using hc0
    have HC0 := Lib.hid hc0
    clear hc0
    go_wp2_with fail
    clear hcs0
    go_loopw [6] (fun v wr => ∃ i : Nat, v = .int .i64 ((i : Int) - 1) ∧ i ≤ k ∧ AT.carrier l c k = AT.carrier l c i ∧ Below W0.heap.size W0 wr) (fun v _ => (intOf v + 1).toNat)
    case atStart => exact ⟨k, rfl, Nat.le_refl _, rfl, Below.refl _ _⟩
    case round =>
      obtain ⟨i, rfl, hi, hca, hb⟩ := hrel
      have HCA := Lib.hid hca
      have HB := Lib.hid hb
      cases i with
      | zero =>
        have hz3 := HZ.out.keep hb
        obtain ⟨y1, y2, y3⟩ := hz3.cells
        have f0 := hz3.frozen 0
        have f1 := hz3.frozen 1
        have f2 := hz3.frozen 2
        have HP := Lib.hid (PUT.out wr (0, 0, 0) hb)
        have HV : Hid (AT.carV l c k = (-1, (0, 0, 0))) := Lib.hid (AT.carV_none HC0.out hca)
        clear hz3 hca hb
        go_wp2_with fail
        refine bodyPost_ret (result_an2 Try.results21 _ _ R (0, 0, 0) _ rfl HP.out.1) rfl ?_
        exact ⟨by rw [HV.out]; rfl, HP.out.2⟩
      | succ i =>
        have hii : (((i + 1 : Nat) : Int) - 1) = (i : Int) := by omega
        rw [hii]
        have hi0 : (0 : Int) ≤ (i : Int) := by omega
        have hin : (i : Int) < (n : Int) := by omega
        obtain ⟨f, hf⟩ : ∃ f, l[i]? = some f := ⟨l[i]'(by rw [HN.out]; omega), List.getElem?_eq_getElem _⟩
        obtain ⟨ca, cn, cc, va, ha, c0, c1, c2, c3, c4, c5⟩ := HCL.out i f hf
        obtain ⟨r, hr⟩ : ∃ r, AT.ownV f.anchors c = r := ⟨_, rfl⟩
        obtain ⟨⟨b1, b2, b3⟩, ok⟩ := r
        have hbw := bnext HB0.out hb
        have CO : Hid (∀ V, Below wr.heap.size wr V → Calls Try.prog 26 #[.agg #[.slice ca cn cc, va, .int .i64 f.hang.1, .int .i64 f.hang.2.1, .int .i64 f.hang.2.2, .int .i64 f.adv], .int .i64 c] V fun e w' => e = .returned (.tuple #[.agg #[.int .i64 b1, .int .i64 b2, .int .i64 b3], .bool ok]) ∧ Below V.heap.size V w') := Lib.hid fun V hV => by
          have := rown_any f.anchors (.slice ca cn cc) va f.hang.1 f.hang.2.1 f.hang.2.2 f.adv c V (HK.out f (List.mem_of_getElem? hf)) (ha.keep (bnext hbw hV))
          rw [hr] at this
          exact this
        obtain ⟨aa, ac, rfl, hal⟩ := ha
        obtain ⟨m, hm⟩ : ∃ m, f.anchors.length = m := ⟨_, rfl⟩
        rw [hm] at CO c1
        have KC : Hid (∀ V, Below wr.heap.size wr V → V.cell? ⟨g, o + i * 6, none⟩ = some (.slice ca cn cc) ∧ V.cell? ⟨g, o + i * 6 + 1, none⟩ = some (.slice aa m ac) ∧ V.cell? ⟨g, o + i * 6 + 2, none⟩ = some (.int .i64 f.hang.1) ∧ V.cell? ⟨g, o + i * 6 + 3, none⟩ = some (.int .i64 f.hang.2.1) ∧ V.cell? ⟨g, o + i * 6 + 4, none⟩ = some (.int .i64 f.hang.2.2) ∧ V.cell? ⟨g, o + i * 6 + 5, none⟩ = some (.int .i64 f.adv) ∧ V.cell? ⟨g, o + k * 6 + 2, none⟩ = some (.int .i64 c)) := Lib.hid fun V hV => by
          have hbV := bnext hbw hV
          exact ⟨(hbV.cell (p := ⟨g, o + i * 6, none⟩) hg).trans c0, (hbV.cell (p := ⟨g, o + i * 6 + 1, none⟩) hg).trans c1, (hbV.cell (p := ⟨g, o + i * 6 + 2, none⟩) hg).trans c2, (hbV.cell (p := ⟨g, o + i * 6 + 3, none⟩) hg).trans c3, (hbV.cell (p := ⟨g, o + i * 6 + 4, none⟩) hg).trans c4, (hbV.cell (p := ⟨g, o + i * 6 + 5, none⟩) hg).trans c5, HCS.out V hbV⟩
        have HF := Lib.hid hf
        have HRR := Lib.hid hr
        clear hca hb hf hr hal hm hbw c0 c1 c2 c3 c4 c5 hii
        go_upto_region 6 with fail
        go_cut [7, 8] from 23 to 36 (fun s7 s8 wx => ∃ G, s7 = .pointer (some ⟨G, 0, none⟩) ∧ s8 = .bool ok ∧ wr.heap.size ≤ G ∧ AnB wx G (b1, b2, b3) ∧ Below wr.heap.size wr wx)
        case first =>
          obtain ⟨k0, k1, k2, k3, k4, k5, k6⟩ := KC.out wr (Below.refl _ _)
          go_region_held3 (fun w' => w'.cell? ⟨g, o + i * 6, none⟩ = some (.slice ca cn cc) ∧ w'.cell? ⟨g, o + i * 6 + 1, none⟩ = some (.slice aa m ac) ∧ w'.cell? ⟨g, o + i * 6 + 2, none⟩ = some (.int .i64 f.hang.1) ∧ w'.cell? ⟨g, o + i * 6 + 3, none⟩ = some (.int .i64 f.hang.2.1) ∧ w'.cell? ⟨g, o + i * 6 + 4, none⟩ = some (.int .i64 f.hang.2.2) ∧ w'.cell? ⟨g, o + i * 6 + 5, none⟩ = some (.int .i64 f.adv) ∧ w'.cell? ⟨g, o + k * 6 + 2, none⟩ = some (.int .i64 c)) ((refine KC.out _ ?_; (repeat' (first | exact Below.refl _ _ | (with_reducible assumption) | (refine bnext ?_ (by with_reducible assumption)) | (refine balloc ?_ _) | (refine below_drewN ?_ _) | (refine Below.drew ?_) | (refine bset ?_ (by first | exact Nat.le_refl _ | assumption | (simp; omega)) _))))) (first | (go_at_call 26; refine (CO.out _ (by (repeat' (first | exact Below.refl _ _ | (with_reducible assumption) | (refine bnext ?_ (by with_reducible assumption)) | (refine balloc ?_ _) | (refine below_drewN ?_ _) | (refine Below.drew ?_))))).mono ?_; rintro e w5 ⟨rfl, hb5⟩; (try (have hz5 : AnB w5 wr.heap.size (0, 0, 0) := AnB.keep (V := (wr.alloc (.cells #[.int .i64 0, .int .i64 0, .int .i64 0] 33)).drew) (a := (0, 0, 0)) (heap_alloc_new wr _) hb5; obtain ⟨e1, e2, e3⟩ := hz5.cells; have e4 := hz5.frozen 0; have e5 := hz5.frozen 1; have e6 := hz5.frozen 2)); have hs5 : wr.heap.size ≤ w5.heap.size := (by first | exact hb5.size | exact Nat.le_trans (by simp) hb5.size)))
          · go_wp2_with fail
            go_meet
            exact ⟨_, rfl, rfl, hs5, heap_alloc_new w5 _, balloc (bnext ((Below.refl _ wr).drew) hb5) _⟩
          · have hk5 : Below wr.heap.size wr w5 := bnext (Below.drew (balloc (Below.refl _ wr) _)) hb5
            have hp5 := hz5.put (b1, b2, b3)
            go_wp2_with fail
            go_meet
            exact ⟨_, rfl, rfl, Nat.le_refl _, hp5, bset (bset (bset hk5 (Nat.le_refl _) _) (Nat.le_refl _) _) (Nat.le_refl _) _⟩
        case rest =>
          obtain ⟨G, rfl, rfl, hwG, hA, hbx⟩ := hcut
          have HBX := Lib.hid (bnext HB.out hbx)
          have hRG : R ≠ G := by
            have h1 := HZ.out.lt
            have h2 := HB.out.size
            omega
          cases ok with
          | true =>
            have HV : Hid (AT.carV l c k = ((i : Int), (b1, b2, b3))) := Lib.hid (AT.carV_some HC0.out (by rw [HCA.out]; exact AT.carrier_yes HF.out HRR.out))
            have HP := Lib.hid (PUT.out wc (b1, b2, b3) HBX.out)
            obtain ⟨x1, x2, x3⟩ := hA.cells
            have hz3 := HZ.out.keep HBX.out
            obtain ⟨y1, y2, y3⟩ := hz3.cells
            have f0 := hz3.frozen 0
            have f1 := hz3.frozen 1
            have f2 := hz3.frozen 2
            clear hz3 hA hbx
            go_upto_region 8 with fail
            go_region_held3 (fun w' => w'.cell? ⟨G, 0, none⟩ = some (.int .i64 b1) ∧ w'.cell? ⟨G, 1, none⟩ = some (.int .i64 b2) ∧ w'.cell? ⟨G, 2, none⟩ = some (.int .i64 b3)) (go_keep) (fail)
            go_wp2_with fail
            refine bodyPost_ret (result_an2 Try.results21 _ _ R (b1, b2, b3) _ rfl HP.out.1) rfl ?_
            exact ⟨by rw [HV.out]; rfl, HP.out.2.drew⟩
          | false =>
            have HN2 : Hid (AT.carrier l c k = AT.carrier l c i) := Lib.hid (by rw [HCA.out]; exact AT.carrier_no HF.out HRR.out)
            clear hA hbx hRG
            go_wp2_with fail
            go_roundw
            case rel => exact ⟨i, by go_num, by omega, HN2.out, HBX.out⟩
            case measure => simp [intOf] <;> omega
end Go.Proofs.Ytpmmincophaaiaa
