/- Plan: what it answers. No conditions. -/
import Derived.Test.YtmiennkldkcnfaaDoorPn13
namespace Go.Proofs.YtmiennkldkcnfaaDoor
set_option maxRecDepth 100000
set_option linter.unusedVariables false
open Go.RowKit Go.Shelf Go.Deep
attribute [local go_sem] Oper.semAt_some
theorem own_notobj {W : World} {N e k n q : Nat} {v : Value} {U : List Value} {o : Obj} (h : W.ownsRow N e k v n U) (ho : W.heap[q]? = some o) (hc : o.isCells = false) : v.ownBlock ≠ some q := by
  rcases h.2 with ⟨rfl, _⟩ | ⟨g, cap, cur, rfl, _, hg, _⟩
  · simp [Value.ownBlock]
  · intro e
    obtain rfl : g = q := by simpa [Value.ownBlock] using e
    rw [hg] at ho
    cases ho
    cases hc
theorem one_cell {X : World} {B : Nat} {a : Value} {t : TypeId} (h : X.heap[B]? = some (.cells #[a] t (0, 0))) : X.cell? ⟨B, 0, none⟩ = some a := by simp [World.cell?, h]
theorem FrS.keepsFrom {S : Nat → Prop} {A B : World} (h : FrS S A B) (N : Nat) (hN : ∀ b o, S b → N ≤ b → A.heap[b]? = some o → o.isCells = true) : KeepsFrom N A B :=
  ⟨h.size, fun k o hk ho hc => (h.block k (Array.getElem?_eq_some_iff.1 ho).1 (fun x => by have := hN k o x hk ho; rw [hc] at this; cases this)).trans ho⟩
def planOk (A B : List Nat) (w most : Int) : Prop := 1 ≤ w ∧ w ≤ 64 ∧ A.length = B.length ∧ A.length ≤ 64 ∧ 1 ≤ most
instance (A B : List Nat) (w most : Int) : Decidable (planOk A B w most) := by unfold planOk; infer_instance
def planP (A B : List Nat) (w most : Int) : List Rc := if planOk A B w most then PN.plan A B w.toNat most.toNat else []
theorem PN.pl_len (D : List Nat) : ∀ k, (PN.pl D k).1.length ≤ k
  | 0 => Nat.le_refl _
  | k + 1 => by
    have ih := PN.pl_len D k
    show (PN.stp (PN.pl D k) k (D.getD k 0)).1.length ≤ k + 1
    unfold PN.stp
    split
    · show (PN.pl D k).1.length ≤ k + 1
      omega
    · split
      · show ((PN.pl D k).1.dropLast ++ [_]).length ≤ k + 1
        rw [List.length_append, List.length_dropLast, List.length_singleton]
        omega
      · show ((PN.pl D k).1 ++ [_]).length ≤ k + 1
        rw [List.length_append, List.length_singleton]
        omega
def slLen (v : Option Value) : Nat := match v with | some (.slice _ n _) => n | _ => 0
theorem plan_none (W : World) (va vb : Value) (A B : List Nat) (w most : Int) (ha : UA W va A) (hb : UA W vb B) (hA : A.length ≤ 1000000) (hB : B.length ≤ 1000000) (hn : ¬ planOk A B w most) :
    Calls Tryd.prog 22 #[va, vb, .int .i64 w, .int .i64 most] W fun e w' => e = .returned (.slice none 0 0) ∧ w' = W := by
  obtain ⟨aa, ac, rfl⟩ := ha.shape
  obtain ⟨ba, bc, rfl⟩ := hb.shape
  have HN := Lib.hid hn
  unfold planOk at HN
  obtain ⟨n, hn1⟩ : ∃ n, A.length = n := ⟨_, rfl⟩
  obtain ⟨m, hm1⟩ : ∃ n, B.length = n := ⟨_, rfl⟩
  rw [hn1] at HN hA ⊢
  rw [hm1] at HN hB ⊢
  clear ha hb hn hn1 hm1
  by_cases h1 : w < 1
  · go_enter Tryd.func22, Tryd.ntmps22
    go_wp2
    go_ret
    exact ⟨rfl, rfl⟩
  · by_cases h2 : w > 64
    · go_enter Tryd.func22, Tryd.ntmps22
      go_wp2
      go_ret
      exact ⟨rfl, rfl⟩
    · by_cases h3 : n = m
      · subst h3
        have hq : ((n : Int) != (n : Int)) = false := by simp
        by_cases h4 : (n : Int) > 64
        · go_enter Tryd.func22, Tryd.ntmps22
          go_wp2
          go_ret
          exact ⟨rfl, rfl⟩
        · have h5 : most < 1 := by have := HN.out; omega
          go_enter Tryd.func22, Tryd.ntmps22
          go_wp2
          go_ret
          exact ⟨rfl, rfl⟩
      · have hq : ((n : Int) != (m : Int)) = true := by simp; omega
        go_enter Tryd.func22, Tryd.ntmps22
        go_wp2
        go_ret
        exact ⟨rfl, rfl⟩
structure PlI (w W : World) (B g n : Nat) (D : List Nat) (pre : List Pc2) : Prop where
  b9 : W.heap[B]? = some (.cells #[.slice (some ⟨g, 0, none⟩) n n] 32 (0, 0))
  b10 : ∃ v, W.heap[B + 1]? = some (.cells #[v] 46 (0, 0)) ∧ W.ownsRow (B + 3) 31 4 v pre.length (rcs (pre.map (bxp D)))
  b11 : W.heap[B + 2]? = some (.cells #[.slice (some ⟨g, 0, none⟩) n n] 32 (0, 0))
  rg : W.heap[g]? = some (.cells (D.map U6).toArray 63 (0, 0))
  rb' : ∀ r ∈ pre.map (bxp D), rb r
  bel : Below w.heap.size w W
theorem PlI.ua {w W : World} {B g n : Nat} {D : List Nat} {pre : List Pc2} (h : PlI w W B g n D pre) (hn : D.length = n) : UA W (.slice (some ⟨g, 0, none⟩) n n) D :=
  ⟨_, _, by rw [hn], by simp, .inr ⟨g, 0, rfl, (Array.getElem?_eq_some_iff.1 h.rg).1, fun j u hu => by rw [Nat.zero_add]; exact nd_cell h.rg (by simpa using hu)⟩⟩
set_option maxHeartbeats 8000000 in
theorem plan_in (m : Nat) (hm : 3 ≤ m) (w : World) (t0 : Nat × Nat) (hld : Laid w t0) (va vb : Value) (A B : List Nat) (pw : Nat) (most : Nat) (ha : UA w va A) (hb : UA w vb B) (hw1 : 1 ≤ pw) (hw2 : pw ≤ 64) (hAB : A.length = B.length) (hA : A.length ≤ 64) (hm1 : 1 ≤ most) (hm2 : most ≤ 9223372036854775807) (hal : ∀ x ∈ A, x < 18446744073709551616) (hbl : ∀ x ∈ B, x < 18446744073709551616) :
    CallsIn Fence.wide m Tryd.prog 22 #[va, vb, .int .i64 (pw : Int), .int .i64 (most : Int)] w fun e W' => ∃ v', e = .returned v' ∧ W'.ownsRow w.heap.size 31 4 v' (PN.plan A B pw most).length (rcs (PN.plan A B pw most)) ∧ Below w.heap.size w W' := by
  have h1 : 1 ≤ m := by omega
  obtain ⟨i0, hi0, hz0, hz1, hz2⟩ := info_parts info_rect
  obtain ⟨aa, ac, rfl⟩ := ha.shape
  obtain ⟨ba, bc, rfl⟩ := hb.shape
  obtain ⟨n, hn⟩ : ∃ n, A.length = n := ⟨_, rfl⟩
  have hbn : B.length = n := by omega
  have HDF := Lib.hid (diffs_any w A B (.slice aa A.length ac) (.slice ba B.length bc) pw n hn hbn (by omega) hw2 ha hb hal hbl)
  obtain ⟨D, hD⟩ : ∃ D, PN.df A B pw = D := ⟨_, rfl⟩
  have HDN : Hid (D.length = n) := Lib.hid (by rw [← hD, PN.df_len pw hAB, hn])
  have HDL : Hid (∀ x ∈ D, x < 18446744073709551616) := Lib.hid fun x hx => by
    rw [← hD] at hx
    exact Nat.lt_of_lt_of_le (PN.df_lt hx) (Nat.pow_le_pow_right (n := 2) (by decide) hw2)
  have HPL : Hid (PN.plan A B pw most = PN.red most (PN.pl D D.length).1) := Lib.hid (by unfold PN.plan; rw [hD, HDN.out, hn])
  rw [hn, hbn, hD] at HDF
  have HLD : Hid (∀ U, Below w.heap.size w U → Laid U t0) := Lib.hid fun U hU => hld.mono hU
  obtain ⟨PL, hPL⟩ : ∃ L, PN.plan A B pw most = L := ⟨_, rfl⟩
  rw [hPL] at HPL ⊢
  rw [hn, hbn]
  have hg1 : ¬ (pw : Int) < 1 := by omega
  have hg2 : ¬ (pw : Int) > 64 := by omega
  have hg3 : ((n : Int) != (n : Int)) = false := by simp
  have hg4 : ¬ (n : Int) > 64 := by omega
  have hg5 : ¬ (most : Int) < 1 := by omega
  have hn64 : n ≤ 64 := by omega
  clear ha hb hal hbl hD hld hPL hAB hn hbn hA
  refine callsIn_of_wp_marks Tryd.func22 rfl trivial ?_ rfl
  simp only [Tryd.ntmps22, List.size_toArray, List.length_cons, List.length_nil, Nat.reduceAdd, Nat.reduceSub, Array.replicate_succ, Array.replicate_zero, List.push_toArray, List.append_toArray, List.nil_append, List.cons_append]
  gi_wp2_with fail
  refine ⟨trivial, ?_⟩
  gi_at_call 40
  refine (callsIn_wide.2 HDF.out).mono ?_
  rintro e w1 ⟨g, rfl, hrg, hgw, hb1⟩
  have HB1 := Lib.hid hb1
  have HRG := Lib.hid hrg
  have hgl := (Array.getElem?_eq_some_iff.1 hrg).1
  clear hb1 hrg HDF
  gi_wp2_with fail
  refine ⟨trivial, ?_⟩
  gi_at_call 41
  refine (callsIn_wide.2 (pieces_any _ _ _ _)).mono ?_
  rintro e w' ⟨rfl, rfl⟩
  gi_wp2_with fail
  obtain ⟨B, hB⟩ : ∃ B, w1.heap.size = B := ⟨_, rfl⟩
  have x9 := heap_alloc_new w1 (.cells #[.slice (some ⟨g, 0, none⟩) n n] 32)
  have x10 := heap_alloc_new (w1.alloc (.cells #[.slice (some ⟨g, 0, none⟩) n n] 32)) (.cells #[.slice none 0 0] 46)
  have x11 := heap_alloc_new ((w1.alloc (.cells #[.slice (some ⟨g, 0, none⟩) n n] 32)).alloc (.cells #[.slice none 0 0] 46)) (.cells #[.slice (some ⟨g, 0, none⟩) n n] 32)
  simp only [World.size_alloc] at x10 x11
  rw [hB] at x9 x10 x11 hgl
  have hb3 := balloc (balloc (balloc (Below.refl _ w1) (.cells #[.slice (some ⟨g, 0, none⟩) n n] 32)) (.cells #[.slice none 0 0] 46)) (.cells #[.slice (some ⟨g, 0, none⟩) n n] 32)
  have s2 : (w1.alloc (.cells #[.slice (some ⟨g, 0, none⟩) n n] 32)).heap.size = B + 1 := by simp [hB]
  have s3 : ((w1.alloc (.cells #[.slice (some ⟨g, 0, none⟩) n n] 32)).alloc (.cells #[.slice none 0 0] 46)).heap.size = B + 1 + 1 := by simp [hB]
  obtain ⟨W6, hW6⟩ : ∃ W6, ((w1.alloc (.cells #[.slice (some ⟨g, 0, none⟩) n n] 32)).alloc (.cells #[.slice none 0 0] 46)).alloc (.cells #[.slice (some ⟨g, 0, none⟩) n n] 32) = W6 := ⟨_, rfl⟩
  have hs6 : W6.heap.size = B + 3 := by rw [← hW6]; simp [hB]
  have HI0 : Hid (PlI w W6 B g n D []) := Lib.hid (by
    have bb3 := balloc (Below.refl _ ((w1.alloc (.cells #[.slice (some ⟨g, 0, none⟩) n n] 32)).alloc (.cells #[.slice none 0 0] 46))) (.cells #[.slice (some ⟨g, 0, none⟩) n n] 32)
    have bb2 := balloc (Below.refl _ (w1.alloc (.cells #[.slice (some ⟨g, 0, none⟩) n n] 32))) (.cells #[.slice none 0 0] 46)
    rw [hW6] at x11 hb3 bb3
    refine ⟨?_, ⟨_, ?_, World.ownsRow_nil _ _ _ _⟩, x11, ?_, (fun r hr => nomatch hr), bnext HB1.out hb3⟩
    · exact (bb3.block B (by rw [s3]; omega)).trans ((bb2.block B (by rw [s2]; omega)).trans x9)
    · exact (bb3.block (B + 1) (by rw [s3]; omega)).trans x10
    · exact (hb3.block g (by omega)).trans HRG.out)
  have HBB := Lib.hid hB
  have HS6 := Lib.hid hs6
  have HGB : Hid (w.heap.size ≤ g ∧ g < B) := Lib.hid ⟨hgw, hgl⟩
  rw [show w1.heap.size + 1 + 1 = B + 2 by rw [hB], show w1.heap.size + 1 = B + 1 by rw [hB], hB, hW6]
  clear x9 x10 x11 hb3 s2 s3 hs6 hW6 hB hgw hgl HRG HB1
  refine range_need rfl h1 (gf := 56) (lb := #[.pointer (some ⟨B + 2, 0, none⟩)]) rfl trivial (enters_of Tryd.func56 (by kernel_rfl) rfl) (pieces_need (m - 1) (by omega) (B + 2) (.slice (some ⟨g, 0, none⟩) n n) D (by rw [HDN.out]; omega) W6) (Below.refl _ _) (fun _ => rfl)
    (fun pre W => PlI w W B g n D pre)
    (fun _ _ _ => False) ?hN ?hI (fun _ _ _ _ _ h _ _ => h) ?h0
    (fun pre x a' W => PcG D pre x W ∧ a' = { tmps := #[.slice aa n ac, .slice ba n bc, .int .i64 (pw : Int), .int .i64 (most : Int), undef, undef, undef, undef, .slice none 0 0, .pointer (some ⟨B, 0, none⟩), .pointer (some ⟨B + 1, 0, none⟩), .int .i64 (x.1 : Int), .int .i64 (x.2 : Int), .int .i64 (pw : Int), .bool false, .bool false, .int .i64 (pw : Int), .bool false, .bool false, .bool false, .slice aa n ac, .int .i64 (n : Int), .slice ba n bc, .int .i64 (n : Int), .bool false, .bool false, .bool false, .slice aa n ac, .int .i64 (n : Int), .bool false, .bool false, .bool false, .int .i64 (most : Int), .bool false, .bool false, .slice aa n ac, .slice ba n bc, .int .i64 (pw : Int), .slice (some ⟨g, 0, none⟩) n n, .slice (some ⟨g, 0, none⟩) n n, .func (.func 56) #[] #[.pointer (some ⟨B + 2, 0, none⟩)], .int .i64 (x.1 : Int), .int .i64 (x.2 : Int), undef, undef, undef, undef, undef, undef, undef, undef, undef, undef, undef, undef, undef, undef], defers := [] })
    ?hAx ?assign ?body ?done ?stop
  case hN =>
    rintro pre W hi
    exact ⟨one_cell hi.b11, hi.ua HDN.out⟩
  case hI =>
    rintro pre W W' row hi hg hr
    have hne : ∀ k o, W.heap[k]? = some o → o.isCells = true → row ≠ some k := fun k o hk hc e => by
      obtain ⟨o', ho, hc'⟩ := (hr k e).2
      rw [hk] at ho
      cases ho
      rw [hc] at hc'
      cases hc'
    have kp : ∀ (k : Nat) (cs : Array Value) (t : TypeId) (fr : Nat × Nat), W.heap[k]? = some (.cells cs t fr) → W'.heap[k]? = some (.cells cs t fr) := fun k cs t fr hk => (hg.block k (Array.getElem?_eq_some_iff.1 hk).1 (fun e => hne k _ hk rfl e.symm)).trans hk
    obtain ⟨b9, ⟨v, hbv, hrow⟩, b11, rg, hrb, hbl⟩ := hi
    exact ⟨kp _ _ _ _ b9, ⟨v, kp _ _ _ _ hbv, (FrS.grown (S := fun b => row = some b) hg (fun r e => e)).own hrow (fun q e x => by
      obtain ⟨_, o, ho, hc⟩ := hr q x
      exact own_notobj hrow ho hc e)⟩, kp _ _ _ _ b11, kp _ _ _ _ rg, hrb, hbl.grown hg hbl.size (fun q e => by have := (hr q e).1; have h2 := HS6.out; have h3 := HGB.out; omega)⟩
  case h0 => exact HI0.out
  case hAx => exact fun pre x a' u W W' row h _ _ => h
  case assign =>
    rintro l pre x W Kc hi hG hK
    simp only [encP]
    have HKK := Lib.hid hK
    clear hK
    gi_wp2
    exact HKK.out _ _ (KeepsFrom.refl _ _) hi ⟨hG, rfl⟩
  case body =>
    rintro l pre x a' W hl ⟨r, hr⟩ hi ⟨hG, rfl⟩
    obtain ⟨x1, x2⟩ := x
    obtain ⟨hG0, hG1, hG2, hG3⟩ := hG
    dsimp only at hG0 hG1 hG2 hG3 ⊢
    have HI := Lib.hid hi
    obtain ⟨v, hbv, hrow⟩ := hi.b10
    obtain ⟨va, vc, rfl⟩ := own_shape hrow
    have HROW := Lib.hid hrow
    have HBV := Lib.hid hbv
    have hx2n : x2 ≤ n := by rw [← HDN.out]; exact hG2
    have hpl : pre.length ≤ 64 := by omega
    have hdr := Below.drew (Below.refl W.heap.size W)
    have HBX : Hid (∀ U, Below W.heap.size W U → Calls Tryd.prog 42 #[.slice (some ⟨g, 0, none⟩) n n, .int .i64 (x1 : Int), .int .i64 (x2 : Int)] U fun e w' => e = .returned (rcV (bxp D (x1, x2))) ∧ Below U.heap.size U w') := Lib.hid fun U hU => box_any U t0 (HLD.out U (bnext hi.bel hU)) D _ x1 x2 ((hi.ua HDN.out).keep hU) (by rw [HDN.out]; omega) hG1 hG2 hG3 HDL.out
    have HRB : Hid (rb (bxp D (x1, x2))) := Lib.hid (PN.bx_rb D x1 _ (by show x1 + (x2 - x1 - 1) < 64; omega) (fun k h1 h2 => by
      have h3 : k < D.length := by have : x2 ≤ D.length := hG2; simp only at h2; omega
      refine ⟨hG3 k h1 (by simp only at h2; omega), ?_⟩
      rw [List.getD_eq_getElem?_getD, List.getElem?_eq_getElem h3]
      exact HDL.out _ (List.getElem_mem h3)))
    have HKS : Hid (∀ U, Below W.heap.size W U → U.cell? ⟨B + 1, 0, none⟩ = some (.slice va pre.length vc) ∧ U.cell? ⟨B, 0, none⟩ = some (.slice (some ⟨g, 0, none⟩) n n)) := Lib.hid fun U hU => ⟨one_cell ((hU.block _ (Array.getElem?_eq_some_iff.1 HBV.out).1).trans HBV.out), one_cell ((hU.block _ (Array.getElem?_eq_some_iff.1 HI.out.b9).1).trans HI.out.b9)⟩
    have hbp : Hid (∀ q, (Value.slice va pre.length vc).ownBlock = some q → B + 3 ≤ q) := Lib.hid fun q e => (hrow.lt q e).1
    have HHR := Lib.hid hr
    obtain ⟨⟨rx, ry, rw', rh⟩, hR⟩ : ∃ R, bxp D (x1, x2) = R := ⟨_, rfl⟩
    rw [hR] at HBX HRB
    have HRR := Lib.hid hR
    obtain ⟨W0, hW0⟩ : ∃ W0, W.drew = W0 := ⟨_, rfl⟩
    rw [hW0] at hdr
    have HD0 := Lib.hid hdr
    have HW0 := Lib.hid hW0
    have HWB : Hid (B + 3 ≤ W.heap.size) := Lib.hid (by have := (Array.getElem?_eq_some_iff.1 hi.b11).1; omega)
    clear hi hbv hrow hdr hG0 hG1 hG2 hG3 hR hW0 hr
    gi_upto_region 8 with fail
    refine wpIn_region_last #[{ dst := some 43, op := Op.load 46 (Operand.tmp 10), type := 46, pos := "plan.go:79", after := #[], guard := none }, { dst := some 44, op := Op.load 32 (Operand.tmp 9), type := 32, pos := "plan.go:79", after := #[], guard := none }, { dst := some 45, op := Op.move (Operand.tmp 11), type := 3, pos := "plan.go:79", after := #[], guard := none }, { dst := some 46, op := Op.move (Operand.tmp 12), type := 3, pos := "plan.go:79", after := #[], guard := none }, { dst := some 47, op := Op.call { callee := Callee.value (Operand.func 42), args := #[Operand.tmp 44, Operand.tmp 45, Operand.tmp 46], argTypes := #[32, 3, 3] }, type := 31, pos := "plan.go:79", after := #[{ on := 1, ground := Ground.data }, { on := 2, ground := Ground.data }, { on := 3, ground := Ground.data }], guard := none }, { dst := some 48, op := Op.buildSlice 46 1 #[(0, Operand.tmp 47)], type := 46, pos := "plan.go:79", after := #[{ on := 4, ground := Ground.data }], guard := none }, { dst := some 49, op := Op.call { callee := Callee.builtin Builtin.append, args := #[Operand.tmp 43, Operand.tmp 48], argTypes := #[46, 46] }, type := 46, pos := "plan.go:79", after := #[{ on := 0, ground := Ground.data }, { on := 5, ground := Ground.data }, { on := 4, ground := Ground.chain }], guard := none }] { dst := none, op := Op.store 46 (Operand.tmp 10) (Operand.tmp 49), type := 0, pos := "plan.go:79", after := #[{ on := 6, ground := Ground.data }, { on := 6, ground := Ground.chain }, { on := 0, ground := Ground.phase }, { on := 1, ground := Ground.phase }, { on := 2, ground := Ground.phase }, { on := 3, ground := Ground.phase }, { on := 4, ground := Ground.phase }, { on := 5, ground := Ground.phase }, { on := 6, ground := Ground.phase }], guard := none } rfl (by kernel_rfl) (by kernel_rfl) (by kernel_rfl) ((fun w' => w'.cell? ⟨B + 1, 0, none⟩ = some (.slice va pre.length vc) ∧ w'.cell? ⟨B, 0, none⟩ = some (.slice (some ⟨g, 0, none⟩) n n))) ?_ (fun hHeld => ?_)
    · (rw [HW0.out]; exact HKS.out _ HD0.out)
    rw [HW0.out] at hHeld ⊢
    refine wpAnyH_take (i := 0) (oi := { dst := some 43, op := Op.load 46 (Operand.tmp 10), type := 46, pos := "plan.go:79", after := #[], guard := none }) (v := ?_) rfl (by kernel_rfl) (by kernel_rfl) (by kernel_rfl) (fun _ _ _ h => h) (Or.inl ⟨by rfl, ?_⟩) (by assumption) ?_
    rotate_left
    · ((intro w hSw; (try dsimp only at hSw); go_simp; (try rw [if_neg (by omega)])); try with_reducible rfl)
    (try simp only [Act.put, List.setIfInBounds_toArray, List.set_cons_zero, List.set_cons_succ])
    refine wpAnyH_take (i := 1) (oi := { dst := some 44, op := Op.load 32 (Operand.tmp 9), type := 32, pos := "plan.go:79", after := #[], guard := none }) (v := ?_) rfl (by kernel_rfl) (by kernel_rfl) (by kernel_rfl) (fun _ _ _ h => h) (Or.inl ⟨by rfl, ?_⟩) (by assumption) ?_
    rotate_left
    · ((intro w hSw; (try dsimp only at hSw); go_simp; (try rw [if_neg (by omega)])); try with_reducible rfl)
    (try simp only [Act.put, List.setIfInBounds_toArray, List.set_cons_zero, List.set_cons_succ])
    refine wpAnyH_take (i := 2) (oi := { dst := some 45, op := Op.move (Operand.tmp 11), type := 3, pos := "plan.go:79", after := #[], guard := none }) (v := ?_) rfl (by kernel_rfl) (by kernel_rfl) (by kernel_rfl) (fun _ _ _ h => h) (Or.inl ⟨by rfl, ?_⟩) (by assumption) ?_
    rotate_left
    · ((intro w hSw; (try dsimp only at hSw); go_simp; (try rw [if_neg (by omega)])); try with_reducible rfl)
    (try simp only [Act.put, List.setIfInBounds_toArray, List.set_cons_zero, List.set_cons_succ])
    refine wpAnyH_take (i := 3) (oi := { dst := some 46, op := Op.move (Operand.tmp 12), type := 3, pos := "plan.go:79", after := #[], guard := none }) (v := ?_) rfl (by kernel_rfl) (by kernel_rfl) (by kernel_rfl) (fun _ _ _ h => h) (Or.inl ⟨by rfl, ?_⟩) (by assumption) ?_
    rotate_left
    · ((intro w hSw; (try dsimp only at hSw); go_simp; (try rw [if_neg (by omega)])); try with_reducible rfl)
    (try simp only [Act.put, List.setIfInBounds_toArray, List.set_cons_zero, List.set_cons_succ])
    refine wpAnyH_ready (rs := [4]) (by kernel_rfl) (by simp) ?_
    refine AllReadyH.cons (o := { dst := some 47, op := Op.call { callee := Callee.value (Operand.func 42), args := #[Operand.tmp 44, Operand.tmp 45, Operand.tmp 46], argTypes := #[32, 3, 3] }, type := 31, pos := "plan.go:79", after := #[{ on := 1, ground := Ground.data }, { on := 2, ground := Ground.data }, { on := 3, ground := Ground.data }], guard := none }) rfl (fun K hK => ?_) AllReadyH.nil
    (go_simp; go_at_call 42; refine (HBX.out _ HD0.out).mono ?_; rintro e wz1 ⟨rfl, bz0⟩; have bz1 := bnext HD0.out bz0; have hSk := HKS.out _ bz1; dsimp only)
    refine hK.out _ _ ?_ (fun hHeld => ?_)
    · exact hSk
    clear hK K
    (try simp only [Act.put, List.setIfInBounds_toArray, List.set_cons_zero, List.set_cons_succ])
    refine wpAnyH_ready (rs := [5]) (by kernel_rfl) (by simp) ?_
    refine AllReadyH.cons (o := { dst := some 48, op := Op.buildSlice 46 1 #[(0, Operand.tmp 47)], type := 46, pos := "plan.go:79", after := #[{ on := 4, ground := Ground.data }], guard := none }) rfl (fun K hK => ?_) AllReadyH.nil
    (go_simp; have bz2 := balloc bz1 (.cells #[.int .i64 rx, .int .i64 ry, .int .i64 rw', .int .i64 rh] 31); have hSk := HKS.out _ bz2)
    refine hK.out _ _ ?_ (fun hHeld => ?_)
    · exact hSk
    clear hK K
    (try simp only [Act.put, List.setIfInBounds_toArray, List.set_cons_zero, List.set_cons_succ])
    refine wpAnyH_ready (rs := [6]) (by kernel_rfl) (by simp) ?_
    refine AllReadyH.cons (o := { dst := some 49, op := Op.call { callee := Callee.builtin Builtin.append, args := #[Operand.tmp 43, Operand.tmp 48], argTypes := #[46, 46] }, type := 46, pos := "plan.go:79", after := #[{ on := 0, ground := Ground.data }, { on := 5, ground := Ground.data }, { on := 4, ground := Ground.chain }], guard := none }) rfl (fun K hK => ?_) AllReadyH.nil
    (refine step_appN (by rfl) _ _ _ (by rfl) (B + 3) 31 i0 _ 4 32 Tryd.underlying46 hi0 hz0 hz1 hz2 rfl (by omega) (.slice va pre.length vc) pre.length (rcs (pre.map (bxp D))) (by rfl) (own_below HROW.out bz2) _ 1 [.int .i64 rx, .int .i64 ry, .int .i64 rw', .int .i64 rh] (by rfl) (srcN_new wz1 [.int .i64 rx, .int .i64 ry, .int .i64 rw', .int .i64 rh] 31 4 1 1 rfl) (by simp [Value.oneCell']) (by unfold maxLen; omega) (by omega) (by have h1 := bz2.size; have h2 := HWB.out; omega) ?_; intro v6 w6 hown6 hgrow hat; have HS6' : Hid (FrS (fun b => (Value.slice va pre.length vc).ownBlock = some b) W w6) := Lib.hid ((FrS.of bz2).trans (FrS.grown hgrow (fun r e => e))); have hSk := And.intro (one_cell (HS6'.out.nd HBV.out (fun e => by have := hbp.out _ e; omega))) (one_cell (HS6'.out.nd HI.out.b9 (fun e => by have := hbp.out _ e; omega))))
    refine hK.out _ _ ?_ (fun hHeld => ?_)
    · exact hSk
    clear hK K
    (try simp only [Act.put, List.setIfInBounds_toArray, List.set_cons_zero, List.set_cons_succ])
    refine wpAnyH_done (by kernel_rfl) ?_ _
    show Oper.wp _ _ _ _ _ _
    have HOW := Lib.hid hown6
    obtain ⟨va6, vc6, rfl⟩ := own_shape hown6
    have hc6 := hSk.1
    have hb6 := HS6'.out.nd HBV.out (fun e => by have := hbp.out _ e; omega)
    have hf6 : w6.frozen? ⟨B + 1, 0, none⟩ = false := nd_froz hb6 0
    have HB6 := Lib.hid hb6
    clear hown6 hgrow hat hSk hb6 bz0 bz1 bz2 hHeld
    go_wp2
    have hfs : FrS (fun b => b = B + 1) w6 (w6.setCell ⟨B + 1, 0, none⟩ (.slice va6 (pre.length + 1) vc6)) := FrS.set (S := fun b => b = B + 1) _ (b := B + 1) rfl _
    have hne : ∀ q, (Value.slice va6 (pre.length + 1) vc6).ownBlock = some q → B + 3 ≤ q := fun q e => (HOW.out.lt q e).1
    refine ⟨?_, trivial, ⟨?_, ⟨_, heap_setCell_same w6 (B + 1) 0 _ _ _ HB6.out, ?_⟩, ?_, ?_, ?_, ?_⟩⟩
    · refine ((HS6'.out.keepsFrom _ (fun b o hb _ ho => ?_)).trans (hfs.keepsFrom _ (fun b o hb hN _ => by have := HS6.out; omega)))
      cases hc : o.isCells with
      | true => rfl
      | false => exact absurd hb (own_notobj HROW.out ho hc)
    · exact hfs.nd (HS6'.out.nd HI.out.b9 (fun e => by have := hbp.out _ e; omega)) (by omega)
    · rw [List.map_append, List.length_append]
      refine hfs.own (ho := ?_) (fun q e x => by have := hne q e; omega)
      rw [List.map_cons, List.map_nil, rcs_app, HRR.out]
      exact HOW.out
    · exact hfs.nd (HS6'.out.nd HI.out.b11 (fun e => by have := hbp.out _ e; omega)) (by omega)
    · exact hfs.nd (HS6'.out.nd HI.out.rg (fun e => by have := hbp.out _ e; have := HGB.out; omega)) (by have := HGB.out; omega)
    · intro r hr
      rw [List.map_append] at hr
      rcases List.mem_append.1 hr with hr | hr
      · exact HI.out.rb' r hr
      · rw [List.map_cons, List.map_nil, List.mem_singleton] at hr
        rw [hr, HRR.out]
        exact HRB.out
    · exact hfs.below w (HS6'.out.below w HI.out.bel (fun b e => by have := hbp.out _ e; have := HGB.out; omega)) (fun b e => by have := HGB.out; omega)
  case done =>
    rintro DD zs W hD hz hi hK
    obtain ⟨v, hbv, hrow⟩ := hi.b10
    have hlen : (zs.map (bxp D)).length ≤ 64 := by
      have h1 : (PN.pl D D.length).1.length ≤ D.length := PN.pl_len D D.length
      rw [hz, HDN.out] at h1
      omega
    rw [show (PN.pl D D.length).1 = zs.map (bxp D) from hz] at HPL
    have HRB := Lib.hid hi.rb'
    obtain ⟨L0, hL0⟩ : ∃ L0, zs.map (bxp D) = L0 := ⟨_, rfl⟩
    rw [show zs.length = L0.length by rw [← hL0]; simp, hL0] at hrow
    rw [hL0] at HPL HRB hlen
    have HROW := Lib.hid hrow
    have HBV := Lib.hid hbv
    have HBL := Lib.hid hi.bel
    have HB30 : Hid (B + 3 ≤ W.heap.size) := Lib.hid (by have := (Array.getElem?_eq_some_iff.1 hi.b11).1; omega)
    have HDD : Hid (w.heap.size ≤ DD) := Lib.hid (by have h2 := HS6.out; have h3 := HGB.out; omega)
    have HK := Lib.hid hK
    clear hi hbv hrow hz hK
    gi_wp2_with fail
    gi_loopw [] (fun wr => ∃ (L : List Rc) (v : Value), wr.heap[B + 1]? = some (.cells #[v] 46 (0, 0)) ∧ B + 3 ≤ wr.heap.size ∧ Hid (wr.ownsRow (B + 3) 31 4 v L.length (rcs L)) ∧ Hid (PN.red most L0 = PN.red most L) ∧ L.length ≤ 64 ∧ Hid (∀ r ∈ L, rb r) ∧ Hid (Below w.heap.size w wr) ∧ Hid (wr.heap[DD]? = some (.deferred (some [])))) (fun wr => slLen (wr.cell? ⟨B + 1, 0, none⟩))
    case atStart => exact ⟨L0, v, HBV.out, HB30.out, HROW, Lib.hid rfl, hlen, HRB, HBL, HK⟩
    case round =>
      obtain ⟨L, v, hbv, hB3, HROW, HPL2, hlen, HRB, HBL, HK⟩ := hrel
      obtain ⟨va, vc, rfl⟩ := own_shape HROW.out
      obtain ⟨k, hk⟩ : ∃ k, L.length = k := ⟨_, rfl⟩
      rw [hk] at HROW hlen hbv
      have hc := one_cell hbv
      have hf : wr.frozen? ⟨B + 1, 0, none⟩ = false := nd_froz hbv 0
      have HB3 := Lib.hid hB3
      have HBV := Lib.hid hbv
      have HKL := Lib.hid hk
      by_cases hkm : most < k
      · have hkz : (k : Int) > (most : Int) := by omega
        have HJ := Lib.hid (join_any wr L _ k (own_base HROW.out (Nat.zero_le _)) hk (by omega) (by omega) HRB.out)
        have HJL : Hid ((PN.jn1 L).length = k - 1) := Lib.hid (by have := PN.jn1_len (l := L) (by omega); omega)
        have HJR : Hid (∀ r ∈ PN.jn1 L, rb r) := Lib.hid (PN.jn1_rb HRB.out (by omega))
        have HJP : Hid (PN.red most L0 = PN.red most (PN.jn1 L)) := Lib.hid (by rw [HPL2.out, PN.red_go (by omega) hm1])
        clear hbv hk
        gi_wp2_with fail
        refine ⟨trivial, ?_⟩
        gi_at_call 43
        refine (callsIn_wide.2 HJ.out).mono ?_
        rintro e wz ⟨v', rfl, hown, hbz⟩
        have hz := (hbz.block (B + 1) (Array.getElem?_eq_some_iff.1 HBV.out).1).trans HBV.out
        have hc2 := one_cell hz
        have hf2 : wz.frozen? ⟨B + 1, 0, none⟩ = false := nd_froz hz 0
        have HZ := Lib.hid hz
        have HOW := Lib.hid hown
        have HBZ := Lib.hid hbz
        obtain ⟨va', vc', rfl⟩ := own_shape hown
        have hfs : Hid (FrS (fun b => b = B + 1) wz (wz.setCell ⟨B + 1, 0, none⟩ (.slice va' (k - 1) vc'))) := Lib.hid (FrS.set (S := fun b => b = B + 1) _ (b := B + 1) rfl _)
        have hbl : Hid (∀ q, (Value.slice va' (k - 1) vc').ownBlock = some q → q ≠ B + 1) := Lib.hid fun q e => by have := (hown.lt q e).1; have := (Array.getElem?_eq_some_iff.1 HBV.out).1; omega
        have HOW2 : Hid ((wz.setCell ⟨B + 1, 0, none⟩ (.slice va' (k - 1) vc')).ownsRow (B + 3) 31 4 (.slice va' (k - 1) vc') (PN.jn1 L).length (rcs (PN.jn1 L))) := Lib.hid (by
          rw [HJL.out]
          exact own_base (hfs.out.own HOW.out hbl.out) HB3.out)
        have HB4 : Hid (Below w.heap.size w (wz.setCell ⟨B + 1, 0, none⟩ (.slice va' (k - 1) vc'))) := Lib.hid (hfs.out.below w (bnext HBL.out HBZ.out) (fun b hb => by have := HGB.out; omega))
        have HK2 : Hid ((wz.setCell ⟨B + 1, 0, none⟩ (.slice va' (k - 1) vc')).heap[DD]? = some (.deferred (some []))) := Lib.hid (hfs.out.nd ((HBZ.out.block DD (Array.getElem?_eq_some_iff.1 HK.out).1).trans HK.out) (fun e => by have h1 := HBV.out; have h2 := HK.out; rw [e, h1] at h2; cases h2))
        have HB5 : Hid (B + 3 ≤ (wz.setCell ⟨B + 1, 0, none⟩ (.slice va' (k - 1) vc')).heap.size) := Lib.hid (Nat.le_trans HB3.out (Nat.le_trans HBZ.out.size hfs.out.size))
        clear hz hown hbz
        gi_wp2
        go_roundw
        case rel => exact ⟨PN.jn1 L, _, heap_setCell_same wz (B + 1) 0 _ _ _ HZ.out, HB5.out, HOW2, HJP, by rw [HJL.out]; omega, HJR, HB4, HK2⟩
        case measure =>
          rw [show (wz.setCell ⟨B + 1, 0, none⟩ (.slice va' (k - 1) vc')).cell? ⟨B + 1, 0, none⟩ = some (.slice va' (k - 1) vc') from one_cell (heap_setCell_same wz (B + 1) 0 _ _ _ HZ.out), hc]
          show k - 1 < k
          omega
      · have hkz : ¬ (k : Int) > (most : Int) := by omega
        have HLE : Hid (PL = L) := Lib.hid (by rw [HPL.out, HPL2.out, PN.red_end (by omega)])
        have HR2 := Lib.hid ((FrS.grown (S := fun b => b = DD) (grownBy_putObj' wr DD (.deferred none)) (fun r e => (Option.some.inj e).symm)).own HROW.out (fun q e x => by rw [x] at e; exact own_notobj HROW.out HK.out rfl e))
        have HB2 := Lib.hid (HBL.out.trans (belowK_b (w := w) (Nat.le_refl _) wr DD _ (.deferred none) (by have := HDD.out; omega) HK.out rfl rfl))
        clear hbv hk hkm
        gi_wp2
        refine ⟨by simp, .inl ⟨_, _, rfl, run_takeDeferred HK.out, ?_⟩⟩
        exact ⟨_, results_tmp rfl _ _ _, .slice va k vc, rfl, by rw [HLE.out, HKL.out]; exact own_base HR2.out (by have := HGB.out; omega), HB2.out⟩
  case stop =>
    rintro D c pre W _ _ h _
    exact h.elim

end Go.Proofs.YtmiennkldkcnfaaDoor
