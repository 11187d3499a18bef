/- The outline at coordinates. No conditions. -/
import Derived.Test.YtanppbdlcinpfaaOl17
set_option linter.unusedSimpArgs false
set_option linter.unusedVariables false
namespace Go.Proofs.Ytanppbdlcinpfaa
set_option maxRecDepth 100000
set_option linter.unusedVariables false
open Go.RowKit Go.Deep
theorem results_ct {P : Program} {fn : Func} {p u : Tmp} {ty : TypeId} (h : fn.results = #[.cell p ty, .tmp u]) (tmps : Array Value) (w : World) (g : Nat) (t : TypeId) (cs : Array Value) (fr : Nat × Nat) (d : TypeDesc)
    (hp : tmps.getD p undef = .pointer (some ⟨g, 0, none⟩)) (hg : w.heap[g]? = some (.cells cs t fr))
    (hu : P.underlying ty = some d) (hd : (match d with | .struct _ | .array _ _ => true | _ => false) = true) (hi : (P.info? ty).map (·.size) = some cs.size) :
    (results fn tmps).run P w = .ok (.tuple #[.agg cs, tmps.getD u undef]) w := by
  have hp' : tmps[p]?.getD undef = .pointer (some ⟨g, 0, none⟩) := by simpa using hp
  simp [results, h, hp', asAddr, run_loadVar_row w g t ty cs fr d hg hu hd hi]
theorem draw_any (W : World) (v : Value) (G : Gl) (vr va vd : Value) (R : List (List AX.Tn)) (at' : List Int) (vc vA vp : Value) (hc hx hy ad : Int) (hgl : G.hg = ⟨hc, hx, hy⟩) (had : G.ad = ad) (h1 : CsAt W vc G.cs) (h2 : AcAt W vA G.an) (h3 : DsAt W vd G.ds) (hok : GlOk G) (hr : RgAt W vr R) (ha : InAt W va at') (hR : R.length ≤ 1000) (hRR : ∀ r ∈ R, r.length ≤ 1000) (hal : at'.length ≤ 1000) (hmv : ∀ d ∈ G.ds, d.m.length = OL.points G) (h4 : MvAt W vp G.pr) (hp40 : OL.points G ≤ 9000) :
    Calls Try.prog 35 #[.agg #[vc, vA, .int .i64 hc, .int .i64 hx, .int .i64 hy, .int .i64 ad, vd, vp], .func (.func 36) #[.agg #[vr, va, vd]] #[]] W fun e W' => ∃ v', e = .returned v' ∧ (∀ U, FrS (fun b => b < W.heap.size) W' U → DrAt U v' (OL.draw G R at')) ∧ Below W.heap.size W W' :=
  callsIn_wide.1 (draw_in 3 (Nat.le_refl 3) W v G vr va R at' vc vA vd vp hc hx hy ad hgl had h1 h2 h3 hok hr ha hR hRR hal hmv h4 hp40)
def OL.zd : Dr := ⟨[], [], ⟨0, 0, 0⟩, 0⟩
theorem zd_at (W : World) : DrAt W (.agg #[.slice none 0 0, .slice none 0 0, .int .i64 0, .int .i64 0, .int .i64 0, .int .i64 0]) OL.zd :=
  ⟨_, _, rfl, ⟨[], ⟨none, 0, rfl, rfl, .inl ⟨rfl, fun _ => rfl⟩⟩, fun i c h => by simp [OL.zd] at h⟩, ⟨none, 0, rfl, rfl, .inl ⟨rfl, fun _ => rfl⟩⟩⟩
theorem dsGo_len {reg : Int} {n : Nat} {hc : Int} : ∀ (D : List Dl) (la : Int), OL.dsGo reg n hc la D = true → ∀ d ∈ D, d.m.length = n
  | [], _, _, d, hd => by cases hd
  | e :: D, la, h, d, hd => by
    unfold OL.dsGo at h
    rw [Bool.and_eq_true] at h
    rcases List.mem_cons.1 hd with rfl | hd
    · have h1 := h.1
      unfold OL.delta at h1
      simp only [Bool.and_eq_true, decide_eq_true_eq] at h1
      exact h1.1.1.2.2.2
    · exact dsGo_len D e.r h.2 d hd
theorem check_ok {G : Gl} {n : Int} (h : OL.check G n = 0) : OL.points G ≤ 40 ∧ ∀ d ∈ G.ds, d.m.length = OL.points G := by
  unfold OL.check at h
  repeat' (split at h; first | cases h | skip)
  rename_i h1 h2 h3 h4 h5 h6
  exact ⟨by omega, dsGo_len _ _ (by cases hb : OL.dsGo n (OL.points G) G.hg.c (-1) G.ds with | true => rfl | false => exact absurd hb h6)⟩
def OL.at (G : Gl) (R : List (List AX.Tn)) (at' : List Int) : Dr × Int := if OL.check G R.length ≠ 0 then (OL.zd, OL.check G R.length) else if AX.coords at' = false then (OL.zd, 10) else if R.all (fun r => AX.right r at'.length) = false then (OL.zd, 11) else (OL.draw G R at', 0)
set_option maxHeartbeats 4000000 in
theorem at_any (W : World) (v vr va : Value) (G : Gl) (R : List (List AX.Tn)) (at' : List Int) (hv : GlAt W v G) (hok : GlOk G) (hr : RgAt W vr R) (ha : InAt W va at') (hR : R.length ≤ 1000) (hRR : ∀ r ∈ R, r.length ≤ 1000) (hal : at'.length ≤ 1000) :
    Calls Try.prog 13 #[v, vr, va] W fun e W' => ∃ dv, e = .returned (.tuple #[dv, .int .i64 (OL.at G R at').2]) ∧ DrAt W' dv (OL.at G R at').1 ∧ Below W.heap.size W W' := by
  have HG0 := Lib.hid hv
  obtain ⟨vc, vA, vd, vp, rfl, h1, h2, h3, h4⟩ := hv
  obtain ⟨ca, ck, rfl⟩ := h1.shape
  obtain ⟨aa, ak, rfl⟩ := h2.shape
  obtain ⟨da, dk, rfl⟩ := h3.shape
  obtain ⟨⟨hc, hx, hy⟩, hhg⟩ : ∃ h, G.hg = h := ⟨_, rfl⟩
  obtain ⟨ad, had⟩ : ∃ a, G.ad = a := ⟨_, rfl⟩
  obtain ⟨cn, hcn⟩ : ∃ n, G.cs.length = n := ⟨_, rfl⟩
  obtain ⟨an, han⟩ : ∃ n, G.an.length = n := ⟨_, rfl⟩
  obtain ⟨dn, hdn⟩ : ∃ n, G.ds.length = n := ⟨_, rfl⟩
  rw [hhg, had, hcn, han, hdn] at HG0 ⊢
  rw [hcn] at h1
  rw [han] at h2
  rw [hdn] at h3
  have HGP := Lib.hid (And.intro h1 (And.intro h2 (And.intro h3 (And.intro h4 (And.intro hhg had)))))
  have HOK := Lib.hid hok
  obtain ⟨ra, rk, rfl, hrr⟩ := id hr
  obtain ⟨ta, tk, rfl, htt⟩ := id ha
  obtain ⟨n, hn⟩ : ∃ n, R.length = n := ⟨_, rfl⟩
  obtain ⟨na, hna⟩ : ∃ n, at'.length = n := ⟨_, rfl⟩
  rw [hn] at hr hR ⊢
  rw [hna] at ha hal ⊢
  have HRA := Lib.hid (And.intro hr (And.intro ha (And.intro hRR (And.intro hn hna))))
  have HRC := Lib.hid hrr
  obtain ⟨ce, hce⟩ : ∃ c, OL.check G R.length = c := ⟨_, rfl⟩
  obtain ⟨co, hco⟩ : ∃ c, AX.coords at' = c := ⟨_, rfl⟩
  have HCE := Lib.hid (And.intro hce hco)
  clear hr ha hrr htt h1 h2 h3 h4 hhg had hcn han hdn hok hn hna hRR
  obtain ⟨B, hB⟩ : ∃ B, W.heap.size = B := ⟨_, rfl⟩
  have x0 := heap_alloc_new W (.cells #[.slice ca cn ck, .slice aa an ak, .int .i64 hc, .int .i64 hx, .int .i64 hy, .int .i64 ad, .slice da dn dk, vp] 34)
  have x1 := heap_alloc_new (W.alloc (.cells #[.slice ca cn ck, .slice aa an ak, .int .i64 hc, .int .i64 hx, .int .i64 hy, .int .i64 ad, .slice da dn dk, vp] 34)) (.cells #[.slice none 0 0, .slice none 0 0, .int .i64 0, .int .i64 0, .int .i64 0, .int .i64 0] 41)
  have bb := balloc (Below.refl _ (W.alloc (.cells #[.slice ca cn ck, .slice aa an ak, .int .i64 hc, .int .i64 hx, .int .i64 hy, .int .i64 ad, .slice da dn dk, vp] 34))) (.cells #[.slice none 0 0, .slice none 0 0, .int .i64 0, .int .i64 0, .int .i64 0, .int .i64 0] 41)
  have hb1 := balloc (balloc (Below.refl _ W) (.cells #[.slice ca cn ck, .slice aa an ak, .int .i64 hc, .int .i64 hx, .int .i64 hy, .int .i64 ad, .slice da dn dk, vp] 34)) (.cells #[.slice none 0 0, .slice none 0 0, .int .i64 0, .int .i64 0, .int .i64 0, .int .i64 0] 41)
  simp only [World.size_alloc] at x1 bb
  obtain ⟨W1, hW1⟩ : ∃ W1, (W.alloc (.cells #[.slice ca cn ck, .slice aa an ak, .int .i64 hc, .int .i64 hx, .int .i64 hy, .int .i64 ad, .slice da dn dk, vp] 34)).alloc (.cells #[.slice none 0 0, .slice none 0 0, .int .i64 0, .int .i64 0, .int .i64 0, .int .i64 0] 41) = W1 := ⟨_, rfl⟩
  rw [hW1] at x1 bb hb1
  rw [hB] at x0 x1 bb
  have HB1 := Lib.hid hb1
  have HX := Lib.hid hB
  have HZ : Hid (∀ U, Below W1.heap.size W1 U → U.heap[B + 1]? = some (.cells #[.slice none 0 0, .slice none 0 0, .int .i64 0, .int .i64 0, .int .i64 0, .int .i64 0] 41)) := Lib.hid fun U hU => (hU.block _ (Array.getElem?_eq_some_iff.1 x1).1).trans x1
  have x0' := (bb.block B (by omega)).trans x0
  have HGB : Hid (∀ U, Below W1.heap.size W1 U → U.heap[B]? = some (.cells #[.slice ca cn ck, .slice aa an ak, .int .i64 hc, .int .i64 hx, .int .i64 hy, .int .i64 ad, .slice da dn dk, vp] 34)) := Lib.hid fun U hU => (hU.block _ (Array.getElem?_eq_some_iff.1 x0').1).trans x0'
  clear x0 x1 bb hb1 x0'
  have g0 : W1.cell? ⟨B, 0, none⟩ = some (.slice ca cn ck) := nd_cell (HGB.out _ (Below.refl _ _)) rfl
  have g1 : W1.cell? ⟨B, 1, none⟩ = some (.slice aa an ak) := nd_cell (HGB.out _ (Below.refl _ _)) rfl
  have g2 : W1.cell? ⟨B, 2, none⟩ = some (.int .i64 hc) := nd_cell (HGB.out _ (Below.refl _ _)) rfl
  have g3 : W1.cell? ⟨B, 3, none⟩ = some (.int .i64 hx) := nd_cell (HGB.out _ (Below.refl _ _)) rfl
  have g4 : W1.cell? ⟨B, 4, none⟩ = some (.int .i64 hy) := nd_cell (HGB.out _ (Below.refl _ _)) rfl
  have g5 : W1.cell? ⟨B, 5, none⟩ = some (.int .i64 ad) := nd_cell (HGB.out _ (Below.refl _ _)) rfl
  have g6 : W1.cell? ⟨B, 6, none⟩ = some (.slice da dn dk) := nd_cell (HGB.out _ (Below.refl _ _)) rfl
  have g7 : W1.cell? ⟨B, 7, none⟩ = some vp := nd_cell (HGB.out _ (Below.refl _ _)) rfl
  have HCK : Hid (Calls Try.prog 28 #[.agg #[.slice ca cn ck, .slice aa an ak, .int .i64 hc, .int .i64 hx, .int .i64 hy, .int .i64 ad, .slice da dn dk, vp], .int .i64 (n : Int)] W1 fun e w' => e = .returned (.int .i64 ce) ∧ Below W1.heap.size W1 w') := Lib.hid (by
    have h := check_any W1 _ G (n : Int) (HG0.out.keep HB1.out) HOK.out
    rw [← HRA.out.2.2.2.1, HCE.out.1] at h
    rw [← HRA.out.2.2.2.1]
    exact h)
  go_enter Try.func13, Try.ntmps13
  go_upto_region 1 with fail
  try rw [show W.heap.size + 1 = B + 1 by rw [hB]]
  try rw [hB]
  try rw [hW1]
  clear hW1 hB
  go_wp2_with fail
  go_at_call 28
  refine HCK.out.mono ?_
  rintro e w1 ⟨rfl, hb1⟩
  have HW1 := Lib.hid hb1
  clear g0 g1 g2 g3 g4 g5 g6 g7 HCK hb1
  by_cases hc0 : ce = 0
  · have hg0 : (ce != 0) = false := by simp [hc0]
    have HCO := Lib.hid (areco_any w1 (.slice ta na tk) at' (HRA.out.2.1.keep (bnext HB1.out HW1.out)) (by rw [HRA.out.2.2.2.2]; omega))
    rw [hco] at HCO
    have HC0 := Lib.hid hc0
    clear hc0 hce
    go_wp2_with fail
    go_at_call 33
    refine HCO.out.mono ?_
    rintro e w2 ⟨rfl, hb2⟩
    have HW2 := Lib.hid (bnext HW1.out hb2)
    clear hb2 HCO hg0
    cases co with
    | false =>
      have HAT : Hid (OL.at G R at' = (OL.zd, 10)) := Lib.hid (by unfold OL.at; rw [if_neg (by rw [HCE.out.1, HC0.out]; simp), if_pos HCE.out.2])
      have hz := (HZ.out w2 HW2.out)
      have z0 : w2.cell? ⟨B + 1, 0, none⟩ = some (.slice none 0 0) := nd_cell hz rfl
      have zf0 := nd_froz hz 0
      have z1 : w2.cell? ⟨B + 1, 1, none⟩ = some (.slice none 0 0) := nd_cell hz rfl
      have zf1 := nd_froz hz 1
      have z2 : w2.cell? ⟨B + 1, 2, none⟩ = some (.int .i64 0) := nd_cell hz rfl
      have zf2 := nd_froz hz 2
      have z3 : w2.cell? ⟨B + 1, 3, none⟩ = some (.int .i64 0) := nd_cell hz rfl
      have zf3 := nd_froz hz 3
      have z4 : w2.cell? ⟨B + 1, 4, none⟩ = some (.int .i64 0) := nd_cell hz rfl
      have zf4 := nd_froz hz 4
      have z5 : w2.cell? ⟨B + 1, 5, none⟩ = some (.int .i64 0) := nd_cell hz rfl
      have zf5 := nd_froz hz 5
      obtain ⟨wz, hwz, hzz, hfz⟩ := sto6 hz (.slice none 0 0) (.slice none 0 0) (.int .i64 0) (.int .i64 0) (.int .i64 0) (.int .i64 0)
      have HZZ := Lib.hid hzz
      have HBZ : Hid (Below W.heap.size W wz) := Lib.hid (hfz.below W (bnext HB1.out HW2.out) (fun b hb => by have := HX.out; omega))
      clear hz hzz hfz
      go_wp2
      try rw [hwz]
      refine bodyPost_ret (results_ct Try.results13 _ _ (B + 1) 41 _ (0, 0) _ rfl HZZ.out Try.underlying41 rfl (by kernel_rfl)) rfl ?_
      exact ⟨_, by rw [HAT.out]; rfl, by rw [HAT.out]; exact zd_at _, HBZ.out⟩
    | true =>
      clear hco
      go_upto_region 7 with fail
      go_loopw [26] (fun v26 wr => ∃ i : Nat, v26 = .int .i64 (i : Int) ∧ i ≤ n ∧ Hid (∀ j r, j < i → R[j]? = some r → AX.right r na = true) ∧ Hid (Below W1.heap.size W1 wr)) (fun v26 _ => n - (intOf v26).toNat)
      case atStart => exact ⟨0, rfl, Nat.zero_le _, Lib.hid (fun j r h => absurd h (Nat.not_lt_zero j)), HW2⟩
      case round =>
        obtain ⟨i, rfl, hi, HAL, HB⟩ := hrel
        by_cases hin : i < n
        · have hii : (i : Int) < (n : Int) := by omega
          have hi0 : (0 : Int) ≤ (i : Int) := by omega
          obtain ⟨r, hri⟩ : ∃ r, R[i]? = some r := ⟨_, List.getElem?_eq_getElem (by rw [HRA.out.2.2.2.1]; exact hin)⟩
          obtain ⟨g, o, rfl, hgl, hcs⟩ : ∃ g o, ra = some ⟨g, o, none⟩ ∧ g < W.heap.size ∧ ∀ (i : Nat) (r : List AX.Tn), R[i]? = some r → ∃ pa pk, W.cell? ⟨g, o + i, none⟩ = some (.slice pa r.length pk) ∧ TnAt W (.slice pa r.length pk) r := by
            rcases HRC.out with h | h
            · rw [h] at hri; simp at hri
            · exact h
          obtain ⟨pa, pk, hpc, hpt⟩ := hcs i r hri
          have hcell := ((bnext HB1.out HB.out).cell (p := ⟨g, o + i, none⟩) hgl).trans hpc
          have HRI := Lib.hid (And.intro hri (HRA.out.2.2.1 r (List.mem_of_getElem? hri)))
          have HPT := Lib.hid (hpt.keep (bnext HB1.out HB.out))
          obtain ⟨rn, hrn⟩ : ∃ m, r.length = m := ⟨_, rfl⟩
          rw [hrn] at hcell HPT
          obtain ⟨rb, hrb⟩ : ∃ b, AX.right r na = b := ⟨_, rfl⟩
          have CR : Hid (∀ U, Below wr.heap.size wr U → Calls Try.prog 34 #[.agg #[.slice pa rn pk], .int .i64 (na : Int)] U fun e w' => e = .returned (.bool rb) ∧ Below U.heap.size U w') := Lib.hid fun U hU => by
            have h := right_any r (.slice pa rn pk) (na : Int) U (by have := HRI.out.2; omega) (HPT.out.keep hU)
            rw [hrb] at h
            exact h
          have HRB := Lib.hid hrb
          have hbx := balloc (Below.refl _ wr) (.cells #[.slice pa rn pk] 63)
          have HBX := Lib.hid hbx
          clear hri hgl hcs hpc hpt hrn hrb hbx
          go_upto_region 9 with fail
          clear hcell
          go_wp2_with fail
          go_at_call 34
          refine (CR.out _ HBX.out).mono ?_
          rintro e w3 ⟨rfl, hb3⟩
          have HW3 := Lib.hid (bnext HB.out (bnext HBX.out hb3))
          clear hb3
          cases rb with
          | true =>
            have HAL2 : Hid (∀ j r, j < i + 1 → R[j]? = some r → AX.right r na = true) := Lib.hid fun j r' hj hr' => by
              by_cases e : j < i
              · exact HAL.out j r' e hr'
              · obtain rfl : j = i := by omega
                rw [HRI.out.1] at hr'
                rw [← Option.some.inj hr']
                exact HRB.out
            go_wp2
            go_roundw
            case rel => exact ⟨i + 1, by go_num, by omega, HAL2, HW3⟩
            case measure => simp [intOf]; omega
          | false =>
            have HAT : Hid (OL.at G R at' = (OL.zd, 11)) := Lib.hid (by
              unfold OL.at
              rw [if_neg (by rw [HCE.out.1, HC0.out]; simp), if_neg (by rw [HCE.out.2]; simp), if_pos]
              rw [HRA.out.2.2.2.2]
              rw [Bool.eq_false_iff]
              intro h
              have h2 := List.all_eq_true.1 h r (List.mem_of_getElem? HRI.out.1)
              rw [HRB.out] at h2
              cases h2)
            have hz := (HZ.out w3 HW3.out)
            have z0 : w3.cell? ⟨B + 1, 0, none⟩ = some (.slice none 0 0) := nd_cell hz rfl
            have zf0 := nd_froz hz 0
            have z1 : w3.cell? ⟨B + 1, 1, none⟩ = some (.slice none 0 0) := nd_cell hz rfl
            have zf1 := nd_froz hz 1
            have z2 : w3.cell? ⟨B + 1, 2, none⟩ = some (.int .i64 0) := nd_cell hz rfl
            have zf2 := nd_froz hz 2
            have z3 : w3.cell? ⟨B + 1, 3, none⟩ = some (.int .i64 0) := nd_cell hz rfl
            have zf3 := nd_froz hz 3
            have z4 : w3.cell? ⟨B + 1, 4, none⟩ = some (.int .i64 0) := nd_cell hz rfl
            have zf4 := nd_froz hz 4
            have z5 : w3.cell? ⟨B + 1, 5, none⟩ = some (.int .i64 0) := nd_cell hz rfl
            have zf5 := nd_froz hz 5
            obtain ⟨wz, hwz, hzz, hfz⟩ := sto6 hz (.slice none 0 0) (.slice none 0 0) (.int .i64 0) (.int .i64 0) (.int .i64 0) (.int .i64 0)
            have HZZ := Lib.hid hzz
            have HBZ : Hid (Below W.heap.size W wz) := Lib.hid (hfz.below W (bnext HB1.out HW3.out) (fun b hb => by have := HX.out; omega))
            clear hz hzz hfz
            go_wp2
            try rw [hwz]
            refine bodyPost_ret (results_ct Try.results13 _ _ (B + 1) 41 _ (0, 0) _ rfl HZZ.out Try.underlying41 rfl (by kernel_rfl)) rfl ?_
            exact ⟨_, by rw [HAT.out]; rfl, by rw [HAT.out]; exact zd_at _, HBZ.out⟩
        · have hii : ¬ (i : Int) < (n : Int) := by omega
          have HAT : Hid (OL.at G R at' = (OL.draw G R at', 0)) := Lib.hid (by
            unfold OL.at
            rw [if_neg (by rw [HCE.out.1, HC0.out]; simp), if_neg (by rw [HCE.out.2]; simp), if_neg]
            rw [HRA.out.2.2.2.2]
            intro h
            rw [Bool.eq_false_iff] at h
            refine h (List.all_eq_true.2 fun r hr => ?_)
            obtain ⟨j, hj⟩ := List.mem_iff_getElem?.1 hr
            exact HAL.out j r (by have := (List.getElem?_eq_some_iff.1 hj).1; have := HRA.out.2.2.2.1; omega) hj)
          have hckk := check_ok (G := G) (n := R.length) (by rw [HCE.out.1, HC0.out])
          have HMV := Lib.hid hckk
          clear hckk hin
          have g0 : wr.cell? ⟨B, 0, none⟩ = some (.slice ca cn ck) := nd_cell (HGB.out _ HB.out) rfl
          have g1 : wr.cell? ⟨B, 1, none⟩ = some (.slice aa an ak) := nd_cell (HGB.out _ HB.out) rfl
          have g2 : wr.cell? ⟨B, 2, none⟩ = some (.int .i64 hc) := nd_cell (HGB.out _ HB.out) rfl
          have g3 : wr.cell? ⟨B, 3, none⟩ = some (.int .i64 hx) := nd_cell (HGB.out _ HB.out) rfl
          have g4 : wr.cell? ⟨B, 4, none⟩ = some (.int .i64 hy) := nd_cell (HGB.out _ HB.out) rfl
          have g5 : wr.cell? ⟨B, 5, none⟩ = some (.int .i64 ad) := nd_cell (HGB.out _ HB.out) rfl
          have g6 : wr.cell? ⟨B, 6, none⟩ = some (.slice da dn dk) := nd_cell (HGB.out _ HB.out) rfl
          have g7 : wr.cell? ⟨B, 7, none⟩ = some (vp) := nd_cell (HGB.out _ HB.out) rfl
          have hbx := balloc (Below.refl _ wr) (.cells #[.slice ra n rk, .slice ta na tk, .slice da dn dk] 89)
          have HDC : Hid (∀ U, Below wr.heap.size wr U → Calls Try.prog 35 #[.agg #[.slice ca cn ck, .slice aa an ak, .int .i64 hc, .int .i64 hx, .int .i64 hy, .int .i64 ad, .slice da dn dk, vp], .func (.func 36) #[.agg #[.slice ra n rk, .slice ta na tk, .slice da dn dk]] #[]] U fun e W' => ∃ v', e = .returned v' ∧ (∀ U', FrS (fun b => b < U.heap.size) W' U' → DrAt U' v' (OL.draw G R at')) ∧ Below U.heap.size U W') := Lib.hid fun U hU => by
            have hb := bnext HB1.out (bnext HB.out hU)
            have h6 := HGP.out
            exact draw_any U (.slice ca cn ck) G (.slice ra n rk) (.slice ta na tk) (.slice da dn dk) R at' (.slice ca cn ck) (.slice aa an ak) vp hc hx hy ad h6.2.2.2.2.1 h6.2.2.2.2.2 (h6.1.keep hb) (h6.2.1.keep hb) (h6.2.2.1.keep hb) HOK.out (HRA.out.1.keep hb) (HRA.out.2.1.keep hb) (by rw [HRA.out.2.2.2.1]; exact hR) HRA.out.2.2.1 (by rw [HRA.out.2.2.2.2]; exact hal) HMV.out.2 (h6.2.2.2.1.keep hb) (by have := HMV.out.1; omega)
          have hxp := heap_alloc_new wr (.cells #[.slice ra n rk, .slice ta na tk, .slice da dn dk] 89)
          obtain ⟨wx, hwx⟩ : ∃ wx, wr.alloc (.cells #[.slice ra n rk, .slice ta na tk, .slice da dn dk] 89) = wx := ⟨_, rfl⟩
          obtain ⟨X, hXe⟩ : ∃ X, wr.heap.size = X := ⟨_, rfl⟩
          rw [hwx] at hbx hxp
          rw [hXe] at hxp
          have HBX := Lib.hid hbx
          have HSB : Hid (B + 1 < wr.heap.size) := Lib.hid (by have h1 := (Array.getElem?_eq_some_iff.1 (HZ.out wr HB.out)).1; exact h1)
          clear hbx
          go_upto_region 13 with fail
          try rw [hwx]
          try rw [hXe]
          clear hwx hXe g0 g1 g2 g3 g4 g5 g6 g7
          have g0 : wx.cell? ⟨B, 0, none⟩ = some (.slice ca cn ck) := nd_cell (HGB.out _ (bnext HB.out HBX.out)) rfl
          have g1 : wx.cell? ⟨B, 1, none⟩ = some (.slice aa an ak) := nd_cell (HGB.out _ (bnext HB.out HBX.out)) rfl
          have g2 : wx.cell? ⟨B, 2, none⟩ = some (.int .i64 hc) := nd_cell (HGB.out _ (bnext HB.out HBX.out)) rfl
          have g3 : wx.cell? ⟨B, 3, none⟩ = some (.int .i64 hx) := nd_cell (HGB.out _ (bnext HB.out HBX.out)) rfl
          have g4 : wx.cell? ⟨B, 4, none⟩ = some (.int .i64 hy) := nd_cell (HGB.out _ (bnext HB.out HBX.out)) rfl
          have g5 : wx.cell? ⟨B, 5, none⟩ = some (.int .i64 ad) := nd_cell (HGB.out _ (bnext HB.out HBX.out)) rfl
          have g6 : wx.cell? ⟨B, 6, none⟩ = some (.slice da dn dk) := nd_cell (HGB.out _ (bnext HB.out HBX.out)) rfl
          have g7 : wx.cell? ⟨B, 7, none⟩ = some (vp) := nd_cell (HGB.out _ (bnext HB.out HBX.out)) rfl
          have p0 : wx.cell? ⟨X, 0, none⟩ = some (.slice ra n rk) := nd_cell hxp rfl
          have p1 : wx.cell? ⟨X, 1, none⟩ = some (.slice ta na tk) := nd_cell hxp rfl
          have p2 : wx.cell? ⟨X, 2, none⟩ = some (.slice da dn dk) := nd_cell hxp rfl
          go_wp2_with fail
          go_at_call 35
          refine (HDC.out _ HBX.out).mono ?_
          rintro e w4 ⟨v4, rfl, hdr, hb4⟩
          obtain ⟨⟨dcs, dan, ⟨e1, e2, e3⟩, e4⟩, hd⟩ : ∃ d, OL.draw G R at' = d := ⟨_, rfl⟩
          rw [hd] at hdr HAT
          have HW4 := Lib.hid (bnext HB.out (bnext HBX.out hb4))
          obtain ⟨vc4, va4, rfl, hcs4, han4⟩ := id (hdr w4 (FrS.refl _ _))
          have HDR := Lib.hid hdr
          clear hdr
          obtain ⟨l1, k1, rfl⟩ := hcs4.shape
          obtain ⟨l2, k2, rfl⟩ := han4.shape
          dsimp only at hcs4 han4 ⊢
          obtain ⟨n1, hn1⟩ : ∃ n, dcs.length = n := ⟨_, rfl⟩
          obtain ⟨n2, hn2⟩ : ∃ n, dan.length = n := ⟨_, rfl⟩
          rw [hn1] at hcs4 HDR ⊢
          rw [hn2] at han4 HDR ⊢
          have HC4 := Lib.hid (And.intro hcs4 han4)
          clear g0 g1 g2 g3 g4 g5 g6 g7 p0 p1 p2 hxp hb4 hcs4 han4 hn1 hn2 hd
          have hz := (HZ.out w4 HW4.out)
          have z0 : w4.cell? ⟨B + 1, 0, none⟩ = some (.slice none 0 0) := nd_cell hz rfl
          have zf0 := nd_froz hz 0
          have z1 : w4.cell? ⟨B + 1, 1, none⟩ = some (.slice none 0 0) := nd_cell hz rfl
          have zf1 := nd_froz hz 1
          have z2 : w4.cell? ⟨B + 1, 2, none⟩ = some (.int .i64 0) := nd_cell hz rfl
          have zf2 := nd_froz hz 2
          have z3 : w4.cell? ⟨B + 1, 3, none⟩ = some (.int .i64 0) := nd_cell hz rfl
          have zf3 := nd_froz hz 3
          have z4 : w4.cell? ⟨B + 1, 4, none⟩ = some (.int .i64 0) := nd_cell hz rfl
          have zf4 := nd_froz hz 4
          have z5 : w4.cell? ⟨B + 1, 5, none⟩ = some (.int .i64 0) := nd_cell hz rfl
          have zf5 := nd_froz hz 5
          obtain ⟨wz, hwz, hzz, hfz⟩ := sto6 hz (.slice l1 n1 k1) (.slice l2 n2 k2) (.int .i64 e1) (.int .i64 e2) (.int .i64 e3) (.int .i64 e4)
          have HZZ := Lib.hid hzz
          have HBZ : Hid (Below W.heap.size W wz) := Lib.hid (hfz.below W (bnext HB1.out HW4.out) (fun b hb => by have := HX.out; omega))
          have HDZ : Hid (Below w4.heap.size w4 wz → True) := Lib.hid fun _ => trivial
          have HFZ := Lib.hid hfz
          clear hz hzz hfz
          go_wp2
          try rw [hwz]
          refine bodyPost_ret (results_ct Try.results13 _ _ (B + 1) 41 _ (0, 0) _ rfl HZZ.out Try.underlying41 rfl (by kernel_rfl)) rfl ?_
          exact ⟨_, by rw [HAT.out]; rfl, by rw [HAT.out]; exact HDR.out _ (HFZ.out.mono (fun b e => by have := HBX.out.size; have := HSB.out; omega)), HBZ.out⟩
  · have hg0 : (ce != 0) = true := by simp [hc0]
    have HAT : Hid (OL.at G R at' = (OL.zd, ce)) := Lib.hid (by unfold OL.at; rw [if_pos (by rw [hce]; exact hc0), hce])
    clear hce hco hc0
    have hz := (HZ.out w1 HW1.out)
    have z0 : w1.cell? ⟨B + 1, 0, none⟩ = some (.slice none 0 0) := nd_cell hz rfl
    have zf0 := nd_froz hz 0
    have z1 : w1.cell? ⟨B + 1, 1, none⟩ = some (.slice none 0 0) := nd_cell hz rfl
    have zf1 := nd_froz hz 1
    have z2 : w1.cell? ⟨B + 1, 2, none⟩ = some (.int .i64 0) := nd_cell hz rfl
    have zf2 := nd_froz hz 2
    have z3 : w1.cell? ⟨B + 1, 3, none⟩ = some (.int .i64 0) := nd_cell hz rfl
    have zf3 := nd_froz hz 3
    have z4 : w1.cell? ⟨B + 1, 4, none⟩ = some (.int .i64 0) := nd_cell hz rfl
    have zf4 := nd_froz hz 4
    have z5 : w1.cell? ⟨B + 1, 5, none⟩ = some (.int .i64 0) := nd_cell hz rfl
    have zf5 := nd_froz hz 5
    obtain ⟨wz, hwz, hzz, hfz⟩ := sto6 hz (.slice none 0 0) (.slice none 0 0) (.int .i64 0) (.int .i64 0) (.int .i64 0) (.int .i64 0)
    have HZZ := Lib.hid hzz
    have HBZ : Hid (Below W.heap.size W wz) := Lib.hid (hfz.below W (bnext HB1.out HW1.out) (fun b hb => by have := HX.out; omega))
    clear hz hzz hfz
    go_wp2
    try rw [hwz]
    refine bodyPost_ret (results_ct Try.results13 _ _ (B + 1) 41 _ (0, 0) _ rfl HZZ.out Try.underlying41 rfl (by kernel_rfl)) rfl ?_
    exact ⟨_, by rw [HAT.out]; rfl, by rw [HAT.out]; exact zd_at _, HBZ.out⟩
end Go.Proofs.Ytanppbdlcinpfaa
