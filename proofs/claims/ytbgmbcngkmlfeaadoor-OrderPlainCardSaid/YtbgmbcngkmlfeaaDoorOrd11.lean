/- The runs of the program. No conditions. -/
import Derived.Test.YtbgmbcngkmlfeaaDoorOrd10
import Derived.Test.YtbgmbcngkmlfeaaDoorOrd3r
namespace Go.Proofs.YtbgmbcngkmlfeaaDoor.OP
theorem run_last {L : List Int} {f t : Nat} {v : Int} (hft : f < t) (ht : t ≤ L.length) (hall : ∀ k y, f ≤ k → k < t → L[k]? = some y → y = v) : L.take t = L.take f ++ List.replicate ((t - f - 1) + 1) v := by
  have h1 : (L.drop f).take (t - f) = List.replicate (t - f) v := by
    refine List.eq_replicate_iff.2 ⟨by simp; omega, fun x hx => ?_⟩
    obtain ⟨i, hi, e⟩ := List.mem_iff_getElem.1 hx
    simp at hi
    simp at e
    exact hall (f + i) x (by omega) (by omega) (by rw [List.getElem?_eq_getElem (by omega), e])
  rw [show t - f - 1 + 1 = t - f by omega, ← h1, ← List.take_add]
  congr 1
  omega
theorem runs_next {L : List Int} {f t : Nat} {v : Int} (hft : f < t) (ht : t ≤ L.length) (hall : ∀ k y, f ≤ k → k < t → L[k]? = some y → y = v) (hb : ∀ y z, (L.take f).getLast? = some y → L[f]? = some z → y ≠ z) : runs (L.take t) = runs (L.take f) ++ [(f, t, v)] := by
  rw [run_last hft ht hall, runs_piece (fun y hy => ?_), List.length_take]
  · congr 3
    · omega
    · congr 1
      omega
  · have h2 := hall f _ (Nat.le_refl _) hft (List.getElem?_eq_getElem (by omega))
    have := hb y _ hy (List.getElem?_eq_getElem (by omega))
    rwa [h2] at this
theorem bd_next {L : List Int} {f t : Nat} {v : Int} (hft : f < t) (ht : t ≤ L.length) (hall : ∀ k y, f ≤ k → k < t → L[k]? = some y → y = v) (hn : ∀ y, L[t]? = some y → y ≠ v) : ∀ y z, (L.take t).getLast? = some y → L[t]? = some z → y ≠ z := by
  intro y z h1 h2
  rw [run_last hft ht hall, List.replicate_succ', ← List.append_assoc] at h1
  obtain rfl : v = y := by simpa using h1
  exact fun e => hn z h2 e.symm
def rnv (r : Rn) : List Value := [.int .i64 (r.1 : Int), .int .i64 (r.2.1 : Int), .int .i64 r.2.2]
def rnc (l : List Rn) : List Value := l.flatMap rnv
theorem rnc_app (a b : List Rn) : rnc (a ++ b) = rnc a ++ rnc b := by simp [rnc]
theorem rnc_one (r : Rn) : rnc [r] = rnv r := by simp [rnc]
end Go.Proofs.YtbgmbcngkmlfeaaDoor.OP
namespace Go.Proofs.YtbgmbcngkmlfeaaDoor
set_option maxRecDepth 100000
set_option linter.unusedVariables false
open Go.RowKit Go.Shelf Go.Deep
attribute [local go_sem] Oper.semAt_some
theorem info_run : (Tryd.prog.info? 44).map (fun i => (i.zero, i.size, i.bytes)) = some (some (.agg #[.int .i64 0, .int .i64 0, .int .i64 0]), 3, 24) := by kernel_rfl
theorem three_src {X : World} {B : Nat} {a b c : Value} {t : TypeId} (h : X.heap[B]? = some (.cells #[a, b, c] t (0, 0))) : ∀ j u, [a, b, c][j]? = some u → X.cell? ((⟨B, 0, none⟩ : Addr).add j) = some u := by
  intro j u hj
  rw [show ((⟨B, 0, none⟩ : Addr).add j) = ⟨B, j, none⟩ by cases j <;> simp [Addr.add]]
  match j, hj with
  | 0, hj => simp at hj; subst hj; simp [World.cell?, h]
  | 1, hj => simp at hj; subst hj; simp [World.cell?, h]
  | 2, hj => simp at hj; subst hj; simp [World.cell?, h]
  | j + 3, hj => simp at hj
theorem keepso_row {v : Value} {A C : World} {B e k n : Nat} {U : List Value} (h : KpR v A C) (ho : A.ownsRow B e k v n U) : KeepsOthers A C := ⟨h.1, fun j o hj hc => (h.2 j (Array.getElem?_eq_some_iff.1 hj).1 (fun e => by
  rcases ho.2 with ⟨rfl, _⟩ | ⟨g, cap, cur, rfl, _, hg, _⟩
  · simp [Value.ownBlock] at e
  · obtain rfl : g = j := by simpa [Value.ownBlock] using e
    rw [hg] at hj
    cases hj
    cases hc)).trans hj⟩
set_option maxHeartbeats 1000000 in
theorem oitself_any (x : Int) (w : World) : Calls Tryd.prog 37 #[.int .i64 x] w fun e w' => e = .returned (.int .i64 x) ∧ Below w.heap.size w w' := by
  go_enter Tryd.func37, Tryd.ntmps37
  go_wp2
  go_ret
  exact ⟨rfl, Below.refl _ _⟩
set_option maxHeartbeats 8000000 in
theorem oruns_in (m : Nat) (hm : 3 ≤ m) (s : ByteArray) (g : Nat × Nat) (w : World) (hl : Laid w g) (hs : s.size ≤ 1000000000) :
    CallsIn Fence.wide m Tryd.prog 17 #[.string s] w fun e W' => ∃ v', e = .returned v' ∧ W'.ownsRow w.heap.size 44 3 v' (OP.runs (OP.levels s)).length (OP.rnc (OP.runs (OP.levels s))) ∧ Below w.heap.size w W' := by
  have h1 : 1 ≤ m := by omega
  obtain ⟨i0, hi0, hz0, hz1, hz2⟩ := info_parts info_run
  have HLV := Lib.hid fun V (hV : Below w.heap.size w V) => olevels_any s g V (hl.mono hV) hs
  have HLN := Lib.hid (OP.levels_len s)
  obtain ⟨K, hK⟩ : ∃ K, OP.levels s = K := ⟨_, rfl⟩
  rw [hK] at HLV HLN ⊢
  obtain ⟨n, hn⟩ : ∃ n, s.size = n := ⟨_, rfl⟩
  rw [hn] at HLV HLN hs
  have hrl := OP.runs_len
  have HRL := Lib.hid hrl
  clear hl hK hn hrl
  refine callsIn_of_wp_marks Tryd.func17 rfl trivial ?_ rfl
  simp only [Tryd.ntmps17, List.size_toArray, List.length_cons, List.length_nil, Nat.reduceAdd, Nat.reduceSub, Array.replicate_succ, Array.replicate_zero, List.push_toArray, List.append_toArray, List.nil_append, List.cons_append]
  gi_wp2_with fail
  refine ⟨trivial, ?_⟩
  gi_at_call 14
  obtain ⟨B, hB⟩ : ∃ B, w.heap.size = B := ⟨_, rfl⟩
  have c3 := heap_alloc_new w (.cells #[.slice none 0 0] 29)
  obtain ⟨W0, hW0⟩ : ∃ W0, w.alloc (.cells #[.slice none 0 0] 29) = W0 := ⟨_, rfl⟩
  have hb0 : Below w.heap.size w W0 := by rw [← hW0]; exact balloc (Below.refl _ _) _
  have hs0 : W0.heap.size = B + 1 := by rw [← hW0, ← hB]; simp
  rw [hW0, hB] at c3
  rw [hW0]
  try rw [hB]
  refine (callsIn_wide.2 (HLV.out W0 hb0)).mono ?_
  rintro e w1 ⟨vl, rfl, hol, hb1⟩
  obtain ⟨ka, kc, rfl⟩ := own_shape hol
  have c31 := (hb1.block B (by omega)).trans c3
  have hB1 := hb1.size
  have HV : Hid (∀ V, KpR (.slice (some ⟨B, 0, none⟩) 0 0) w1 V → RowAt V (.slice ka n kc) (K.map (Value.int .i64))) := Lib.hid fun V hV => row_own (hV.own hol (fun q e e2 => by have : B = q := Option.some.inj e; have := (hol.lt q e2).1; omega)) (by rw [List.length_map, HLN.out])
  have HB1 := Lib.hid (bnext hb0 hb1)
  have HB := Lib.hid hB
  clear hol hb1 c3 hb0 hW0 HLV hB
  gi_wp2_with fail
  refine ⟨trivial, ?_⟩
  gi_at_call 36
  refine (callsIn_wide.2 (piecesI_any ka n kc (.func (.func 37) #[] #[]) _ ⟨_, _, rfl⟩)).mono ?_
  rintro e w' ⟨rfl, rfl⟩
  obtain ⟨P, hP⟩ : ∃ P, w1.heap.size = P := ⟨_, rfl⟩
  obtain ⟨W6, hW6, b10, b11, hbb, hs6⟩ := two_new w1 (.cells #[.slice ka n kc] 26) (.cells #[.func (.func 37) #[] #[]] 31) P hP
  try rw [hW6]
  rw [hP]
  have c6 := (hbb.block B (by omega)).trans c31
  have hP6 : B < P := by omega
  have HX6 : Hid (∀ V, KpR (.slice (some ⟨B, 0, none⟩) 0 0) W6 V → V.cell? ⟨P, 0, none⟩ = some (.slice ka n kc) ∧ V.cell? ⟨P + 1, 0, none⟩ = some (.func (.func 37) #[] #[])) := Lib.hid fun V hV =>
    ⟨hV.cell (by simp [World.cell?, b10]) (fun e => by simp [Value.ownBlock] at e; omega), hV.cell (by simp [World.cell?, b11]) (fun e => by simp [Value.ownBlock] at e; omega)⟩
  have HB6 := Lib.hid (bnext HB1.out hbb)
  have HK6 := Lib.hid (KpR.of (v := (.slice (some ⟨B, 0, none⟩) 0 0)) hbb)
  clear hW6 hbb b10 b11 c31
  gi_wp2_with fail
  refine range_need rfl h1 (gf := 52) (lb := #[.pointer (some ⟨P, 0, none⟩), .pointer (some ⟨P + 1, 0, none⟩)]) rfl trivial (enters_of Tryd.func52 (by kernel_rfl) rfl) (pcR_need (m - 1) (by omega) ka n kc P (P + 1) K (fun x => x) HLN.out (by omega) W6) (Below.refl _ _) (fun _ => rfl)
    (fun pre W => pendR pre ≤ n ∧ (∃ v, W.heap[B]? = some (.cells #[v] 29 (0, 0)) ∧ W.ownsRow W6.heap.size 44 3 v (OP.runs (K.take (pendR pre))).length (OP.rnc (OP.runs (K.take (pendR pre))))) ∧ KpR (.slice (some ⟨B, 0, none⟩) 0 0) W6 W ∧ Below w.heap.size w W ∧ ∀ y z, (K.take (pendR pre)).getLast? = some y → K[pendR pre]? = some z → y ≠ z)
    (fun _ _ _ => False) ?hN ?hI (fun _ _ _ _ _ h _ _ => h) ?h0
    (fun pre x a' W => PcGR n K (fun x => x) pre x W ∧ ∃ Bx, W6.heap.size ≤ Bx ∧ W.heap[Bx]? = some (.cells #[.int .i64 (x.1 : Int), .int .i64 (x.2.1 : Int)] 52 (0, 0)) ∧ a' = { tmps := #[.string s, undef, .slice none 0 0, .pointer (some ⟨B, 0, none⟩), .pointer (some ⟨Bx, 0, none⟩), .int .i64 x.2.2, .string s, .slice ka n kc, .func (.func 52) #[] #[.pointer (some ⟨P, 0, none⟩), .pointer (some ⟨P + 1, 0, none⟩)], .agg #[.int .i64 (x.1 : Int), .int .i64 (x.2.1 : Int)], .int .i64 x.2.2, undef, undef, undef, undef, undef, undef, undef, undef, undef, undef], defers := [] })
    ?hAx ?assign ?body ?done ?stop
  case hN =>
    rintro pre W ⟨hp, hrow, hkp, hbw, hbd⟩
    obtain ⟨x1, x2⟩ := HX6.out W hkp
    refine ⟨x1, x2, fun k x hk hx => ?_, fun x _ => oitself_any x W⟩
    obtain ⟨hkl, hke⟩ := List.getElem?_eq_some_iff.1 hx
    obtain ⟨g, o, rfl, -, hc⟩ := (HV.out W (HK6.out.trans hkp)).cell (k := k) (by rw [List.length_map]; exact hkl)
    exact ⟨g, o, rfl, by rw [hc, List.getElem_map, hke]⟩
  case hI =>
    rintro pre W W' row ⟨hp, ⟨v, hbv, hrow⟩, hkp, hbw, hbd⟩ hg hr
    have hne : ∀ k o, W.heap[k]? = some o → o.isCells = true → row ≠ some k := fun k o hk hc e => by
      obtain ⟨o', ho, hc'⟩ := (hr k e).2
      rw [hk] at ho
      cases ho
      rw [hc] at hc'
      cases hc'
    have hrow' : W'.ownsRow W6.heap.size 44 3 v (OP.runs (K.take (pendR pre))).length (OP.rnc (OP.runs (K.take (pendR pre)))) := own_of_grown hrow hg (fun q e e2 => by
      rcases hrow.2 with ⟨rfl, _⟩ | ⟨g', cap, cur, rfl, _, hg', _⟩
      · simp [Value.ownBlock] at e
      · obtain rfl : g' = q := by simpa [Value.ownBlock] using e
        exact hne _ _ hg' rfl e2)
    exact ⟨hp, ⟨v, (hg.block B (Array.getElem?_eq_some_iff.1 hbv).1 (fun e => hne B _ hbv rfl e.symm)).trans hbv, hrow'⟩, hkp.grown hg (fun q e => (hr q e).1), hbw.grown hg (by have := HB6.out.size; have := hkp.1; omega) (fun q e => by have := (hr q e).1; have := HB6.out.size; omega), hbd⟩
  case h0 => exact ⟨Nat.zero_le _, ⟨_, c6, by rw [show pendR [] = 0 from rfl]; exact World.ownsRow_nil _ _ _ _⟩, KpR.refl _ _, HB6.out, fun y z h => by rw [show pendR [] = 0 from rfl] at h; simp at h⟩
  case hAx =>
    rintro pre x a' u W W' row ⟨h1, Bx, h2, h3, h4⟩ hg hr
    exact ⟨h1, Bx, h2, (hg.block Bx (Array.getElem?_eq_some_iff.1 h3).1 (fun e => by obtain ⟨o, ho, hc⟩ := (hr Bx e.symm).2; rw [h3] at ho; cases ho; cases hc)).trans h3, h4⟩
  case assign =>
    rintro L pre ⟨xf, xt, xv⟩ W Kc ⟨hp, ⟨v, hbv, hrow⟩, hkp, hbw, hbd⟩ hG hK
    simp only [peR]
    have HKK := Lib.hid hK
    clear hK
    have HP := Lib.hid hp
    have HR := Lib.hid hrow
    have HBV := Lib.hid hbv
    have HKP := Lib.hid hkp
    have HBW := Lib.hid hbw
    have HBD := Lib.hid hbd
    have HG := Lib.hid hG
    clear hp hrow hkp hbw hbd hG hbv
    gi_wp2
    have hbA : Below W.heap.size W (W.alloc (.cells #[.int .i64 (xf : Int), .int .i64 (xt : Int)] 52)) := balloc (Below.refl _ _) _
    exact HKK.out _ _ ((KeepsOthers.alloc _ _).from _) ⟨HP.out, ⟨v, (hbA.block B (Array.getElem?_eq_some_iff.1 HBV.out).1).trans HBV.out, own_below HR.out hbA⟩, HKP.out.below hbA, bnext HBW.out hbA, HBD.out⟩ ⟨HG.out, W.heap.size, HKP.out.1, heap_alloc_new W _, rfl⟩
  case body =>
    rintro L pre ⟨xf, xt, xv⟩ a' W hl ⟨r, hr⟩ ⟨hp, ⟨v, hbv, hrow⟩, hkp, hbw, hbd⟩ ⟨hG, Bx, hBx, hbx, rfl⟩
    obtain ⟨g1, g2, g3, g4, g5⟩ := id hG
    simp only at hbx g1 g2 g3 g4 g5
    rw [← g1] at hp hrow hbd
    have hxt : xt ≤ K.length := by rw [HLN.out]; exact g3
    have hrn := OP.runs_next g2 hxt (fun k y h1 h2 hy => g4 k y h1 h2 hy) hbd
    have hbd2 := OP.bd_next g2 hxt (fun k y h1 h2 hy => g4 k y h1 h2 hy) (fun y hy => g5 y hy)
    have hlen : (OP.runs (K.take xf)).length ≤ xf := Nat.le_trans (HRL.out _) (by rw [List.length_take]; omega)
    generalize OP.runs (K.take xf) = R at hrow hrn hlen
    obtain ⟨va, vc, rfl⟩ := own_shape hrow
    have hvB : (Value.slice va R.length vc).ownBlock ≠ some B := fun e => by have := (hrow.lt B e).1; omega
    have HRN := Lib.hid hrn
    have HBD2 := Lib.hid hbd2
    have HKP := Lib.hid hkp
    have HBW := Lib.hid hbw
    have HBV := Lib.hid hbv
    have c0 : W.cell? ⟨B, 0, none⟩ = some (.slice va R.length vc) := by simp [World.cell?, hbv]
    obtain ⟨z0, z1⟩ := two_cell hbx
    have hWs := hkp.1
    clear g1 g4 g5 hG hbd hbd2 hrn hkp hbw hr hbx hp hbv
    gi_wp2_with (gi_at_builtin; refine wpListIn_append_own _ rfl _ _ 29 rfl W6.heap.size 44 i0 (.agg #[.int .i64 0, .int .i64 0, .int .i64 0]) 3 24 Tryd.underlying29 hi0 hz0 hz1 hz2 rfl (by decide) _ _ _ rfl (hrow.alloc _) ⟨W.heap.size, 0, none⟩ 1 1 [.int .i64 (xf : Int), .int .i64 (xt : Int), .int .i64 xv] rfl rfl (three_src (World.alloc_heap_new W _)) (by simp [Value.oneCell']) (by unfold maxLen; omega) (by omega) (by simp; omega) ?_; intro v' w7 hown' hgrow _; obtain ⟨g', cap', rfl⟩ := ownsRow_succ hown'; have hb7 := (hgrow.block B (by have := (Array.getElem?_eq_some_iff.1 HBV.out).1; simp; omega) (fun e => hvB e.symm)).trans ((Below.heap_alloc W _ _ (Array.getElem?_eq_some_iff.1 HBV.out).1).trans HBV.out); have hc7 : w7.cell? ⟨B, 0, none⟩ = some (.slice va R.length vc) := (by simp [World.cell?, hb7]); have hf7 : w7.frozen? ⟨B, 0, none⟩ = false := (by simp [World.frozen?, hb7]))
    have hkr : KpR (.slice va R.length vc) W w7 := (KpR.of (balloc (Below.refl _ W) _)).row hgrow
    have hlt7 : ∀ q, (Value.slice va R.length vc).ownBlock = some q → W6.heap.size ≤ q := fun q e => (hrow.lt q e).1
    have hset : (w7.setCell ⟨B, 0, none⟩ (.slice (some ⟨g', 0, none⟩) (R.length + 1) cap')).heap[B]? = some (.cells #[.slice (some ⟨g', 0, none⟩) (R.length + 1) cap'] 29 (0, 0)) := heap_setCell_same w7 B 0 _ _ _ hb7
    have hgs : w7.grownBy (w7.setCell ⟨B, 0, none⟩ (.slice (some ⟨g', 0, none⟩) (R.length + 1) cap')) (some B) := ⟨rfl, rfl, rfl, by simp, fun k _ hk => Below.heap_setCell _ _ _ k (fun e => hk (by rw [e]))⟩
    have hown7 := own_of_grown hown' hgs (fun q e e2 => by have := (hown'.lt q e).1; have := Option.some.inj e2; omega)
    have hbw7 : Below w.heap.size w w7 := (balloc HBW.out _).grown hgrow (by have := HBW.out.size; simp; omega) (fun k e => by have := hlt7 k e; have := HB6.out.size; omega)
    refine ⟨((keepso_row hkr hrow).trans (KeepsOthers.setCell _ _ _)).from _, trivial, ?_⟩
    refine ⟨by rw [pendR_snoc]; exact g3, ⟨_, hset, ?_⟩, ?_, bset hbw7 (by show w.heap.size ≤ B; rw [HB.out]; exact Nat.le_refl _) _, by rw [pendR_snoc]; exact HBD2.out⟩
    · rw [pendR_snoc, HRN.out, List.length_append, OP.rnc_app, OP.rnc_one]
      have h := hown7
      rw [hs6] at h
      exact h
    · exact ((HKP.out.below (balloc (Below.refl _ W) _)).grown hgrow hlt7).row hgs
  case done =>
    rintro D zs W hD hz ⟨hp, ⟨v, hbv, hrow⟩, hkp, hbw, hbd⟩ hK
    rw [hz, List.take_of_length_le (by rw [HLN.out]; exact Nat.le_refl _)] at hrow
    have c0 : W.cell? ⟨B, 0, none⟩ = some v := by simp [World.cell?, hbv]
    obtain ⟨va, vc, rfl⟩ := own_shape hrow
    have hsz := HB6.out.size
    have HR := Lib.hid hrow
    have HBW := Lib.hid hbw
    clear hrow hbw hkp hbd hp hbv
    gi_wp2
    refine ⟨by simp, .inl ⟨_, _, rfl, run_takeDeferred hK, ?_⟩⟩
    exact ⟨_, results_tmp rfl _ _ _, .slice va (OP.runs K).length vc, rfl, own_base (ownsRow_putObj HR.out _ hK rfl) (by omega), HBW.out.trans (belowK_b (w := w) (Nat.le_refl _) W D _ _ (by omega) hK rfl rfl)⟩
  case stop =>
    rintro D c pre W _ _ h _
    exact h.elim
theorem oruns_any (s : ByteArray) (g : Nat × Nat) (w : World) (hl : Laid w g) (hs : s.size ≤ 1000000000) :
    Calls Tryd.prog 17 #[.string s] w fun e W' => ∃ v', e = .returned v' ∧ W'.ownsRow w.heap.size 44 3 v' (OP.runs (OP.levels s)).length (OP.rnc (OP.runs (OP.levels s))) ∧ Below w.heap.size w W' :=
  callsIn_wide.1 (oruns_in 3 (Nat.le_refl _) s g w hl hs)
end Go.Proofs.YtbgmbcngkmlfeaaDoor
