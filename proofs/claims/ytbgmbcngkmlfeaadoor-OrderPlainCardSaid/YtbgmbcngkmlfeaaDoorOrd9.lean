/- The directions of the program. No conditions. -/
import Derived.Test.YtbgmbcngkmlfeaaDoorOrd8
namespace Go.Proofs.YtbgmbcngkmlfeaaDoor
set_option maxRecDepth 100000
set_option linter.unusedVariables false
open Go.RowKit Go.Shelf Go.Deep
attribute [local go_sem] Oper.semAt_some
theorem keeps_below {A B : World} (h : Below A.heap.size A B) : KeepsOthers A B := ⟨h.size, fun k o hk _ => (h.block k (Array.getElem?_eq_some_iff.1 hk).1).trans hk⟩
theorem own_of_grown {w w' : World} {B e n size : Nat} {v : Value} {xs : List Value} {row : Option Nat} (h : w.ownsRow B e size v n xs) (hg : w.grownBy w' row) (hr : ∀ q, v.ownBlock = some q → row ≠ some q) : w'.ownsRow B e size v n xs :=
  h.kept (row := row) hg (by cases hw : v.ownBlock with | none => exact Or.inl rfl | some q => exact Or.inr (fun e => hr q hw e.symm))
theorem own_base {w : World} {B B' e size n : Nat} {v : Value} {xs : List Value} (h : w.ownsRow B e size v n xs) (hB : B' ≤ B) : w.ownsRow B' e size v n xs := by
  refine ⟨h.1, ?_⟩
  rcases h.2 with h1 | ⟨g, cap, cur, rfl, hb, rest⟩
  · exact .inl h1
  · exact .inr ⟨g, cap, cur, rfl, Nat.le_trans hB hb, rest⟩
/-- All blocks but that of a row are kept. -/
def KpR (v : Value) (W W' : World) : Prop := W.heap.size ≤ W'.heap.size ∧ ∀ k, k < W.heap.size → v.ownBlock ≠ some k → W'.heap[k]? = W.heap[k]?
theorem KpR.refl (v : Value) (W : World) : KpR v W W := ⟨Nat.le_refl _, fun _ _ _ => rfl⟩
theorem KpR.trans {v : Value} {A B C : World} (h : KpR v A B) (k : KpR v B C) : KpR v A C := ⟨Nat.le_trans h.1 k.1, fun j h1 h2 => (k.2 j (Nat.lt_of_lt_of_le h1 h.1) h2).trans (h.2 j h1 h2)⟩
theorem KpR.of {v : Value} {A B : World} (h : Below A.heap.size A B) : KpR v A B := ⟨h.size, fun k h1 _ => h.block k h1⟩
theorem KpR.below {v : Value} {A B C : World} (h : KpR v A B) (k : Below B.heap.size B C) : KpR v A C := h.trans (KpR.of k)
theorem KpR.grown {v : Value} {A B C : World} {r : Option Nat} (h : KpR v A B) (k : B.grownBy C r) (hr : ∀ q, r = some q → A.heap.size ≤ q) : KpR v A C := ⟨Nat.le_trans h.1 k.size, fun j h1 h2 => (k.block j (Nat.lt_of_lt_of_le h1 h.1) (fun e => by have := hr j e.symm; omega)).trans (h.2 j h1 h2)⟩
theorem KpR.row {v : Value} {A B C : World} (h : KpR v A B) (k : B.grownBy C v.ownBlock) : KpR v A C := ⟨Nat.le_trans h.1 k.size, fun j h1 h2 => (k.block j (Nat.lt_of_lt_of_le h1 h.1) (fun e => h2 e.symm)).trans (h.2 j h1 h2)⟩
theorem KpR.cell {v : Value} {A B : World} (h : KpR v A B) {p : Addr} {u : Value} (hc : A.cell? p = some u) (hv : v.ownBlock ≠ some p.block) : B.cell? p = some u := by
  rw [← hc]
  simp only [World.cell?, h.2 p.block (World.block_lt_of_cell? _ _ hc) hv]
theorem two_cell {X : World} {B : Nat} {a b : Value} {t : TypeId} (h : X.heap[B]? = some (.cells #[a, b] t (0, 0))) : X.cell? ⟨B, 0, none⟩ = some a ∧ X.cell? ⟨B, 1, none⟩ = some b := by
  constructor <;> simp [World.cell?, h]
theorem three (w : World) (o0 o1 o2 : Obj) (B : Nat) (hB : w.heap.size = B) : ∃ W0, ((w.alloc o0).alloc o1).alloc o2 = W0 ∧ W0.heap[B]? = some o0 ∧ W0.heap[B + 1]? = some o1 ∧ W0.heap[B + 2]? = some o2 ∧ Below B w W0 ∧ W0.heap.size = B + 3 := by
  subst hB
  have a0 := heap_alloc_new w o0
  have a1 := heap_alloc_new (w.alloc o0) o1
  have a2 := heap_alloc_new ((w.alloc o0).alloc o1) o2
  simp only [World.size_alloc] at a1 a2
  refine ⟨_, rfl, ?_, ?_, a2, balloc (balloc (balloc (Below.refl _ _) _) _) _, by simp⟩
  · exact (Below.heap_alloc _ _ _ (by simp; omega)).trans ((Below.heap_alloc _ _ _ (by simp)).trans a0)
  · exact (Below.heap_alloc _ _ _ (by simp)).trans a1
/-- What is no cell is kept beside a row. -/
theorem keeps_row {v : Value} {A C : World} {B e k n : Nat} {U : List Value} (h : KpR v A C) (ho : A.ownsRow B e k v n U) (N : Nat) : KeepsFrom N A C := KeepsOthers.from ⟨h.1, fun j o hj hc => (h.2 j (Array.getElem?_eq_some_iff.1 hj).1 (fun e => by
  rcases ho.2 with ⟨rfl, _⟩ | ⟨g, cap, cur, rfl, _, hg, _⟩
  · simp [Value.ownBlock] at e
  · obtain rfl : g = j := by simpa [Value.ownBlock] using e
    rw [hg] at hj
    cases hj
    cases hc)).trans hj⟩ N
/-- Neighbouring pieces are of different kinds. -/
def Bd (K : List Int) (p : Int → Bool) (e : Nat) : Prop := 0 < e → ∀ y z, K[e]? = some y → K[e - 1]? = some z → p z ≠ p y
theorem Bd.next {K : List Int} {p : Int → Bool} {n : Nat} {pre : List PcD} {x : PcD} {W : World} (h : PcGD n K p pre x W) : Bd K p x.2.1 := fun h0 y z hy hz e => by
  obtain ⟨h1, h2, h3, h4, h5⟩ := h
  have h6 := h4 (x.2.1 - 1) z (by omega) (by omega) hz
  exact h5 y hy (by rw [← e, h6])
set_option maxHeartbeats 8000000 in
theorem odirections_in (m : Nat) (hm : 3 ≤ m) (K : List Int) (b : Int) (v : Value) (w : World) (hv : Src w v (K.map (Value.int .i64))) (hl : K.length ≤ 1000000000) (hb : b = 1 ∨ b = 2) (hk : ∀ k ∈ K, k = 0 ∨ k = 1 ∨ k = 2 ∨ k = 3) :
    CallsIn Fence.wide m Tryd.prog 31 #[v, .int .i64 b] w fun e W' => ∃ v', e = .returned v' ∧ W'.ownsRow w.heap.size 3 1 v' K.length ((OP.dirs b K).map (Value.int .i64)) ∧ Below w.heap.size w W' := by
  have h1 : 1 ≤ m := by omega
  have HV : Hid (∀ V, Below w.heap.size w V → Src V v (K.map (Value.int .i64))) := Lib.hid fun V hV => hv.keep hV
  obtain ⟨ka, kc, rfl, -⟩ := hv.out
  rw [List.length_map] at HV ⊢
  obtain ⟨n, hn⟩ : ∃ n, K.length = n := ⟨_, rfl⟩
  have HCL : Hid (∀ V, Below w.heap.size w V → Calls Tryd.prog 46 #[.slice ka n kc] V fun e w' => ∃ v', e = .returned v' ∧ w'.ownsRow V.heap.size 3 1 v' n (K.map (Value.int .i64)) ∧ Below V.heap.size V w') := Lib.hid fun V hV => by
    have h := oclone_any K (.slice ka K.length kc) V (HV.out V hV) hl
    rwa [hn] at h
  have HN := Lib.hid hn
  have HK := Lib.hid hk
  have HB := Lib.hid hb
  have hb0 : b ≠ 0 := by omega
  rw [hn] at hl HV ⊢
  clear hv hn hk hb
  refine callsIn_of_wp_marks Tryd.func31 rfl trivial ?_ rfl
  simp only [Tryd.ntmps31, List.size_toArray, List.length_cons, List.length_nil, Nat.reduceAdd, Nat.reduceSub, Array.replicate_succ, Array.replicate_zero, List.push_toArray, List.append_toArray, List.nil_append, List.cons_append]
  gi_wp2_with fail
  refine ⟨trivial, ?_⟩
  gi_at_call 46
  obtain ⟨B, hB⟩ : ∃ B, w.heap.size = B := ⟨_, rfl⟩
  have c3 := heap_alloc_new w (.cells #[.int .i64 b] 3)
  obtain ⟨W0, hW0⟩ : ∃ W0, w.alloc (.cells #[.int .i64 b] 3) = W0 := ⟨_, rfl⟩
  have hb0' : Below w.heap.size w W0 := by rw [← hW0]; exact balloc (Below.refl _ _) _
  have hs0 : W0.heap.size = B + 1 := by rw [← hW0, ← hB]; simp
  rw [hW0, hB] at c3
  rw [hW0]
  try rw [hB]
  clear hW0
  refine (callsIn_wide.2 (HCL.out W0 hb0')).mono ?_
  rintro e w1 ⟨vl, rfl, hol, hb1⟩
  obtain ⟨la, lc, rfl⟩ := own_shape hol
  have c31 := (hb1.block B (by omega)).trans c3
  have hB1 := hb1.size
  have HOL := Lib.hid hol
  have HB1 := Lib.hid (bnext hb0' hb1)
  have hown0 : ∀ q, (Value.slice la n lc).ownBlock = some q → B < q ∧ q < w1.heap.size := fun q e => by have := hol.lt q e; omega
  clear hol hb1 c3 hb0'
  gi_upto_region 2 with fail
  obtain ⟨B5, hB5⟩ : ∃ B5, w1.heap.size = B5 := ⟨_, rfl⟩
  have c5 := heap_alloc_new w1 (.cells #[.slice la n lc] 26)
  obtain ⟨W2, hW2⟩ : ∃ W2, w1.alloc (.cells #[.slice la n lc] 26) = W2 := ⟨_, rfl⟩
  have hb2 : Below w1.heap.size w1 W2 := by rw [← hW2]; exact balloc (Below.refl _ _) _
  have hs2 : W2.heap.size = B5 + 1 := by rw [← hW2, ← hB5]; simp
  rw [hW2, hB5] at c5
  rw [hW2]
  try rw [hB5]
  have c32 := (hb2.block B (by omega)).trans c31
  have HOL2 := Lib.hid (own_below HOL.out hb2)
  have HB2 := Lib.hid (bnext HB1.out hb2)
  have HX : Hid (∀ V, KpR (.slice la n lc) W2 V → V.cell? ⟨B, 0, none⟩ = some (.int .i64 b) ∧ V.cell? ⟨B5, 0, none⟩ = some (.slice la n lc)) := Lib.hid fun V hV =>
    ⟨hV.cell (by simp [World.cell?, c32]) (fun e => by have := hown0 _ e; simp at this), hV.cell (by simp [World.cell?, c5]) (fun e => by have := hown0 _ e; simp at this; omega)⟩
  have HOW := Lib.hid hown0
  rw [hs0] at HOL2
  obtain ⟨x3, x5⟩ := HX.out W2 (KpR.refl _ _)
  clear hW2 hb2 c5 c31 c32 HOL HB1 hown0
  gi_wp2
  clear x3 x5
  gi_loopw [6, 20] (fun v6 v20 wr => ∃ i : Nat, v20 = .int .i64 (i : Int) ∧ i ≤ n ∧ v6 = .int .i64 (OP.lst b (K.take i)) ∧ wr.ownsRow (B + 1) 3 1 (.slice la n lc) n ((OP.early b K i).map (Value.int .i64)) ∧ KpR (.slice la n lc) W2 wr ∧ Below w.heap.size w wr) (fun _ v _ => n - (intOf v).toNat)
  case atStart => exact ⟨0, rfl, Nat.zero_le _, rfl, by rw [OP.early_zero]; exact HOL2.out, KpR.refl _ _, HB2.out⟩
  case round =>
    obtain ⟨i, rfl, hi, rfl, hrow, hkp, hbw⟩ := hrel
    obtain ⟨x3, x5⟩ := HX.out wr hkp
    by_cases hin : i < n
    · have hii : (i : Int) < (n : Int) := by omega
      have hi0 : (0 : Int) ≤ (i : Int) := by omega
      obtain ⟨k, hk⟩ : ∃ k, K[i]? = some k := ⟨K[i]'(by rw [HN.out]; exact hin), List.getElem?_eq_getElem _⟩
      have hkk := HK.out k (List.mem_of_getElem? hk)
      obtain ⟨en1, en2⟩ := OP.early_next (b := b) hk
      have esm := OP.early_same (b := b) hk
      obtain ⟨kg, ko, rfl, hkg, hkc⟩ := (HV.out wr hbw).row.cell (k := i) (by rw [List.length_map, HN.out]; exact hin)
      have hkv : wr.cell? ⟨kg, ko + i, none⟩ = some (.int .i64 k) := by
        rw [hkc, List.getElem_map]
        congr 2
        exact (List.getElem?_eq_some_iff.1 hk).2
      obtain ⟨lg, lcap, e, hBg, hlg, -⟩ := own_at hrow (by omega)
      injection e with e _ e2
      subst e e2
      have HROW := Lib.hid hrow
      have HKP := Lib.hid hkp
      have HBW := Lib.hid hbw
      have HEN := Lib.hid en1
      have HEM := Lib.hid en2
      have HES := Lib.hid esm
      clear hkc hk en1 en2 esm hrow hkp hbw
      rcases hkk with rfl | rfl | rfl | rfl
      · have hl2 : Hid (OP.lst b (K.take (i + 1)) = OP.lst b (K.take i)) := Lib.hid (by rw [HEM.out]; simp)
        have he2 : Hid (OP.early b K (i + 1) = OP.early b K i) := Lib.hid (by rw [HEN.out]; simpa using HES.out)
        gi_wp2
        go_roundw
        case rel => exact ⟨i + 1, by go_num, hin, by rw [hl2.out], by rw [he2.out]; exact HROW.out, HKP.out, HBW.out⟩
        case measure => simp [intOf]; omega
      · have hl2 : Hid (OP.lst b (K.take (i + 1)) = 1) := Lib.hid (by rw [HEM.out]; simp)
        have he2 : Hid (OP.early b K (i + 1) = OP.early b K i) := Lib.hid (by rw [HEN.out]; simpa using HES.out)
        gi_wp2
        go_roundw
        case rel => exact ⟨i + 1, by go_num, hin, by rw [hl2.out], by rw [he2.out]; exact HROW.out, HKP.out, HBW.out⟩
        case measure => simp [intOf]; omega
      · have hl2 : Hid (OP.lst b (K.take (i + 1)) = 2) := Lib.hid (by rw [HEM.out]; simp)
        have he2 : Hid (OP.early b K (i + 1) = OP.early b K i) := Lib.hid (by rw [HEN.out]; simpa using HES.out)
        gi_wp2
        go_roundw
        case rel => exact ⟨i + 1, by go_num, hin, by rw [hl2.out], by rw [he2.out]; exact HROW.out, HKP.out, HBW.out⟩
        case measure => simp [intOf]; omega
      · have hl2 : Hid (OP.lst b (K.take (i + 1)) = OP.lst b (K.take i)) := Lib.hid (by rw [HEM.out]; simp)
        obtain ⟨ls, hls⟩ : ∃ ls, OP.lst b (K.take i) = ls := ⟨_, rfl⟩
        have he2 : Hid (OP.early b K (i + 1) = (OP.early b K i).set i ls) := Lib.hid (by rw [HEN.out, ← hls]; simp)
        have hel := OP.early_len b K i (by rw [HN.out]; omega)
        rw [HN.out] at hel
        have hce : ∃ z, wr.cell? ⟨lg, i, none⟩ = some (.int .i64 z) := by
          have h := HROW.out.cellAt i (by omega)
          rw [List.getElem?_map, List.getElem?_eq_getElem (by rw [hel]; exact hin)] at h
          exact ⟨_, h⟩
        obtain ⟨z, hcell⟩ := hce
        have hfr := HROW.out.frozenAt i
        obtain ⟨hst, hgr⟩ := HROW.out.stored i (.int .i64 ls)
        have hset : ((OP.early b K i).map (Value.int .i64)).set i (.int .i64 ls) = (OP.early b K (i + 1)).map (Value.int .i64) := by rw [he2.out, List.map_set]
        rw [hset] at hst
        have hk2 : KpR (.slice (some ⟨lg, 0, none⟩) n lc) W2 (wr.setCell ⟨lg, i, none⟩ (.int .i64 ls)) := HKP.out.row hgr
        have hb2 : Below w.heap.size w (wr.setCell ⟨lg, i, none⟩ (.int .i64 ls)) := bset HBW.out (by show w.heap.size ≤ lg; omega) _
        have HS := Lib.hid hst
        have HK2 := Lib.hid hk2
        have HB3 := Lib.hid hb2
        rw [hls] at hl2 ⊢
        clear hst hk2 hb2 hset hls hgr
        gi_wp2
        go_roundw
        case rel => exact ⟨i + 1, by go_num, hin, by rw [hl2.out], HS.out, HK2.out, HB3.out⟩
        case measure => simp [intOf]; omega
    · obtain rfl : n = i := by omega
      rw [OP.early_end HN.out] at hrow
      have HROW := Lib.hid hrow
      have HKP := Lib.hid hkp
      have HBW := Lib.hid hbw
      clear hrow hkp hbw
      gi_wp2_with fail
      refine ⟨trivial, ?_⟩
      gi_at_call 40
      refine (callsIn_wide.2 (piecesB_any ka n kc (.func (.func 48) #[] #[]) _ ⟨_, _, rfl⟩)).mono ?_
      rintro e w' ⟨rfl, rfl⟩
      obtain ⟨P, hP⟩ : ∃ P, wr.heap.size = P := ⟨_, rfl⟩
      obtain ⟨W6, hW6, b9, b10, b11, hbb, hs6⟩ := three wr (.cells #[.func (.func 47) #[] #[.pointer (some ⟨B5, 0, none⟩), .pointer (some ⟨B, 0, none⟩)]] 31) (.cells #[.slice ka n kc] 26) (.cells #[.func (.func 48) #[] #[]] 54) P hP
      simp only [World.size_alloc]
      try rw [hW6]
      rw [hP]
      have hbb' : Below wr.heap.size wr W6 := by rw [hP]; exact hbb
      have hKP6 : KpR (.slice la n lc) W2 W6 := HKP.out.below hbb'
      have hB6 : Below w.heap.size w W6 := bnext HBW.out hbb'
      have hO6 := own_below HROW.out hbb'
      have hlt6 : ∀ q, (Value.slice la n lc).ownBlock = some q → B < q ∧ q < P := fun q e => by
        have h1 := HOW.out q e
        have h2 := hO6.lt q e
        have h3 := HKP.out.1
        omega
      have HX6 : Hid (∀ V, KpR (.slice la n lc) W6 V → (V.cell? ⟨B, 0, none⟩ = some (.int .i64 b) ∧ V.cell? ⟨B5, 0, none⟩ = some (.slice la n lc)) ∧ V.cell? ⟨P, 0, none⟩ = some (.func (.func 47) #[] #[.pointer (some ⟨B5, 0, none⟩), .pointer (some ⟨B, 0, none⟩)]) ∧ V.cell? ⟨P + 1, 0, none⟩ = some (.slice ka n kc) ∧ V.cell? ⟨P + 2, 0, none⟩ = some (.func (.func 48) #[] #[])) := Lib.hid fun V hV =>
        ⟨HX.out V (hKP6.trans hV), hV.cell (by simp [World.cell?, b9]) (fun e => by have := hlt6 _ e; simp at this), hV.cell (by simp [World.cell?, b10]) (fun e => by have := hlt6 _ e; simp at this; omega), hV.cell (by simp [World.cell?, b11]) (fun e => by have := hlt6 _ e; simp at this; omega)⟩
      have HO6 := Lib.hid hO6
      have HB6 := Lib.hid hB6
      have HLT := Lib.hid hlt6
      have HK26 := Lib.hid hKP6
      clear hbb hbb' hKP6 hB6 hO6 hlt6 b9 b10 b11 x3 x5 hW6 HROW HKP HBW
      gi_wp2_with fail
      refine range_need rfl h1 (gf := 53) (lb := #[.pointer (some ⟨P + 1, 0, none⟩), .pointer (some ⟨P + 1 + 1, 0, none⟩)]) rfl trivial (enters_of Tryd.func53 (by kernel_rfl) rfl) (pcD_need (m - 1) (by omega) ka n kc (P + 1) (P + 2) K (fun x => x == 0) HN.out (by omega) W6) (Below.refl _ _) (fun _ => rfl)
        (fun pre W => pendD pre ≤ n ∧ W.ownsRow (B + 1) 3 1 (.slice la n lc) n ((OP.part b K (pendD pre)).map (Value.int .i64)) ∧ KpR (.slice la n lc) W6 W ∧ Below w.heap.size w W ∧ Bd K (fun x => x == 0) (pendD pre))
        (fun _ _ _ => False) ?hN ?hI (fun _ _ _ _ _ h _ _ => h) ?h0
        (fun pre x a' W => PcGD n K (fun x => x == 0) pre x W ∧ ∃ Bx, W6.heap.size ≤ Bx ∧ W.heap[Bx]? = some (.cells #[.int .i64 (x.1 : Int), .int .i64 (x.2.1 : Int)] 52 (0, 0)) ∧ a' = { tmps := #[.slice ka n kc, .int .i64 b, undef, .pointer (some ⟨B, 0, none⟩), .slice none 0 0, .pointer (some ⟨B5, 0, none⟩), .int .i64 (OP.lst b (K.take n)), u7, u8, .pointer (some ⟨P, 0, none⟩), .func (.func 48) #[] #[], .pointer (some ⟨Bx, 0, none⟩), .bool x.2.2, undef, undef, .slice ka n kc, .slice la n lc, .int .i64 b, .slice ka n kc, .int .i64 (n : Int), .int .i64 (n : Int), .bool false, u22, u23, u24, u25, u26, u27, u28, u29, u30, u31, u32, u33, u34, u35, u36, u37, u38, .func (.func 47) #[] #[.pointer (some ⟨B5, 0, none⟩), .pointer (some ⟨B, 0, none⟩)], .slice ka n kc, .func (.func 48) #[] #[], .func (.func 53) #[] #[.pointer (some ⟨P + 1, 0, none⟩), .pointer (some ⟨P + 1 + 1, 0, none⟩)], .agg #[.int .i64 (x.1 : Int), .int .i64 (x.2.1 : Int)], .bool x.2.2, undef, undef, undef, undef, undef, undef, undef, undef, undef, undef, undef, undef, undef, undef, undef, undef, undef, undef, undef, undef, undef, undef, undef, undef, undef, undef, undef], defers := [] })
        ?hAx ?assign ?body ?done ?stop
      case hN =>
        rintro pre W ⟨hp, hrow, hkp, hbw, hbd⟩
        obtain ⟨-, -, x1, x2⟩ := HX6.out W hkp
        refine ⟨x1, x2, fun k x hk hx => ?_, fun x _ => oneutral_any x W⟩
        obtain ⟨hkl, hke⟩ := List.getElem?_eq_some_iff.1 hx
        obtain ⟨g, o, rfl, -, hc⟩ := (HV.out W hbw).row.cell (k := k) (by rw [List.length_map]; exact hkl)
        exact ⟨g, o, rfl, by rw [hc, List.getElem_map, hke]⟩
      case hI =>
        rintro pre W W' row ⟨hp, hrow, hkp, hbw, hbd⟩ hg hr
        have hlt := HLT.out
        exact ⟨hp, own_of_grown hrow hg (fun q e e2 => by have := hlt q e; have := (hr q e2).1; omega), hkp.grown hg (fun q e => (hr q e).1), hbw.grown hg (by have := HB6.out.size; have := hkp.1; omega) (fun q e => by have := (hr q e).1; have := HB6.out.size; omega), hbd⟩
      case h0 => exact ⟨Nat.zero_le _, by rw [show pendD [] = 0 from rfl, OP.part_zero]; exact HO6.out, KpR.refl _ _, HB6.out, fun h => absurd h (by decide)⟩
      case hAx =>
        rintro pre x a' u W W' row ⟨h1, Bx, h2, h3, h4⟩ hg hr
        exact ⟨h1, Bx, h2, (hg.block Bx (Array.getElem?_eq_some_iff.1 h3).1 (fun e => by obtain ⟨o, ho, hc⟩ := (hr Bx e.symm).2; rw [h3] at ho; cases ho; cases hc)).trans h3, h4⟩
      case assign =>
        rintro L pre ⟨xf, xt, xv⟩ W Kc ⟨hp, hrow, hkp, hbw, hbd⟩ hG hK
        simp only [peD]
        have HKK := Lib.hid hK
        clear hK
        have HP := Lib.hid hp
        have HR := Lib.hid hrow
        have HKP := Lib.hid hkp
        have HBW := Lib.hid hbw
        have HBD := Lib.hid hbd
        have HG := Lib.hid hG
        clear hp hrow hkp hbw hbd hG
        gi_wp2
        have hbA : Below W.heap.size W (W.alloc (.cells #[.int .i64 (xf : Int), .int .i64 (xt : Int)] 52)) := balloc (Below.refl _ _) _
        exact HKK.out _ _ ((KeepsOthers.alloc _ _).from _) ⟨HP.out, own_below HR.out hbA, HKP.out.below hbA, bnext HBW.out hbA, HBD.out⟩ ⟨HG.out, W.heap.size, HKP.out.1, heap_alloc_new W _, rfl⟩
      case body =>
        rintro L pre ⟨xf, xt, xv⟩ a' W hl ⟨r, hr⟩ ⟨hp, hrow, hkp, hbw, hbd⟩ ⟨hG, Bx, hBx, hbx, rfl⟩
        have hbd2 := Bd.next hG
        obtain ⟨g1, g2, g3, g4, g5⟩ := id hG
        simp only at hbx hbd2 g1 g2 g3 g4 g5
        rw [← g1] at hp hrow hbd
        clear g1
        have HR := Lib.hid hrow
        have HKP := Lib.hid hkp
        have HBW := Lib.hid hbw
        have HBX := Lib.hid hbx
        have HKW2 := Lib.hid (HK26.out.trans hkp)
        have HBD2 := Lib.hid hbd2
        have hxtn : xt ≤ K.length := by rw [HN.out]; exact g3
        cases xv with
        | false =>
          have hsk : Hid (OP.part b K xt = OP.part b K xf) := Lib.hid (OP.part_skip hb0 (by omega) hxtn (fun i y h1 h2 hy e => by have := g4 i y h1 h2 hy; rw [e] at this; cases this))
          clear g4 g5 hG hbd hbd2 hrow hkp hbw hr hbx
          gi_wp2
          refine ⟨(KeepsOthers.refl _).from _, trivial, ?_⟩
          exact ⟨by rw [pendD_snoc]; exact g3, by rw [pendD_snoc, hsk.out]; exact HR.out, HKP.out, HBW.out, by rw [pendD_snoc]; exact HBD2.out⟩
        | true =>
          have hne0 : xf ≤ K.length := by omega
          have hfp : (∀ i, xf ≤ i → i < xt → (OP.dirs b K)[i]? = some (OP.fillD b (OP.part b K xf) xf xt)) := (OP.part_gap hb0 g2 hxtn (fun i y h1 h2 hy => by simpa using g4 i y h1 h2 hy) (fun h0 y hy => by
            obtain ⟨y', hy'⟩ : ∃ y', K[xf]? = some y' := ⟨K[xf]'(by omega), List.getElem?_eq_getElem _⟩
            have h2 : (y == 0) ≠ (y' == 0) := hbd h0 y' y hy' hy
            have h3 : (y' == 0) = true := g4 xf y' (Nat.le_refl _) g2 hy'
            rw [h3] at h2
            simpa using h2) (fun y hy => by simpa using g5 y hy))
          have hpl := OP.part_len b K xf hne0
          rw [HN.out] at hpl
          have HSD := Lib.hid fun (i : Int) V (hV : Below W.heap.size W V) => oside_any i b (OP.part b K xf) la n lc B5 B V hpl (by omega) ((HX.out V (HKW2.out.below hV)).2) ((HX.out V (HKW2.out.below hV)).1) (row_own (own_below HR.out hV) (by rw [List.length_map, hpl]))
          obtain ⟨d1, hd1⟩ : ∃ d1, OP.side b (OP.part b K xf) ((xf : Int) - 1) = d1 := ⟨_, rfl⟩
          obtain ⟨d2, hd2⟩ : ∃ d2, OP.side b (OP.part b K xf) (xt : Int) = d2 := ⟨_, rfl⟩
          have S1 : Hid (∀ V, Below W.heap.size W V → Calls Tryd.prog 47 #[.int .i64 ((xf : Int) - 1), .pointer (some ⟨B5, 0, none⟩), .pointer (some ⟨B, 0, none⟩)] V fun e w' => e = .returned (.int .i64 d1) ∧ Below V.heap.size V w') := Lib.hid fun V hV => by rw [← hd1]; exact HSD.out _ V hV
          have S2 : Hid (∀ V, Below W.heap.size W V → Calls Tryd.prog 47 #[.int .i64 (xt : Int), .pointer (some ⟨B5, 0, none⟩), .pointer (some ⟨B, 0, none⟩)] V fun e w' => e = .returned (.int .i64 d2) ∧ Below V.heap.size V w') := Lib.hid fun V hV => by rw [← hd2]; exact HSD.out _ V hV
          have hfd : OP.fillD b (OP.part b K xf) xf xt = if d1 = d2 then d1 else b := by unfold OP.fillD; rw [hd1, hd2]
          rw [hfd] at hfp
          have HPL := Lib.hid hpl
          have HD2 : Hid (∀ V, Below W.heap.size W V → (V.cell? ⟨B, 0, none⟩ = some (.int .i64 b) ∧ V.cell? ⟨B5, 0, none⟩ = some (.slice la n lc)) ∧ V.cell? ⟨P, 0, none⟩ = some (.func (.func 47) #[] #[.pointer (some ⟨B5, 0, none⟩), .pointer (some ⟨B, 0, none⟩)]) ∧ V.cell? ⟨Bx, 0, none⟩ = some (.int .i64 (xf : Int)) ∧ V.cell? ⟨Bx, 1, none⟩ = some (.int .i64 (xt : Int))) := Lib.hid fun V hV => by
            obtain ⟨q1, q2, -⟩ := HX6.out V (HKP.out.below hV)
            have q3 := two_cell ((hV.block Bx (Array.getElem?_eq_some_iff.1 HBX.out).1).trans HBX.out)
            exact ⟨q1, q2, q3⟩
          obtain ⟨⟨y3, y5⟩, y9, z0, z1⟩ := HD2.out W (Below.refl _ _)
          have hwr : IntKind.i64.wrap ((xf : Int) - 1) = (xf : Int) - 1 := by rw [IntKind.wrap_i64]; omega
          clear g4 g5 hG hbd hbd2 hrow hkp hbw hr hbx hd1 hd2 hfd hpl HSD
          gi_wp2_with fail
          refine ⟨trivial, fun _ => by omega, ?_⟩
          refine (CallsIn.inRound L (callsIn_wide.2 (S1.out _ (Below.refl _ _)))).mono ?_
          rintro e W7 ⟨rfl, hb7⟩
          have HB7 := Lib.hid hb7
          obtain ⟨⟨y3', y5'⟩, y9', z0', z1'⟩ := HD2.out W7 hb7
          clear y3 y5 y9 z0 z1 hb7
          gi_wp2_with fail
          refine ⟨trivial, fun _ => by omega, ?_⟩
          refine (CallsIn.inRound L (callsIn_wide.2 (S2.out _ HB7.out))).mono ?_
          rintro e W8 ⟨rfl, hb8⟩
          have HB8 := Lib.hid (bnext HB7.out hb8)
          obtain ⟨⟨y3, y5⟩, y9, z0, z1⟩ := HD2.out W8 HB8.out
          clear y3' y5' y9' z0' z1' hb8 HB7
          have HD8 : Hid (∀ V, KpR (.slice la n lc) W8 V → V.cell? ⟨B5, 0, none⟩ = some (.slice la n lc) ∧ V.cell? ⟨Bx, 0, none⟩ = some (.int .i64 (xf : Int)) ∧ V.cell? ⟨Bx, 1, none⟩ = some (.int .i64 (xt : Int))) := Lib.hid fun V hV => by
            have hlt := HLT.out
            have hq := HX6.out V ((HKP.out.below HB8.out).trans hV)
            exact ⟨hq.1.2, hV.cell z0 (fun e => by have := hlt _ e; simp at this; omega), hV.cell z1 (fun e => by have := hlt _ e; simp at this; omega)⟩
          by_cases hdd : d1 = d2
          · have hne : (d1 != d2) = false := by simp [hdd]
            rw [if_pos hdd] at hfp
            clear hdd
            have HFP := Lib.hid hfp
            clear hfp
            gi_wp2_with fail
            gi_loopw [14] (fun v14 wr => ∃ j : Nat, v14 = .int .i64 (j : Int) ∧ xf ≤ j ∧ j ≤ xt ∧ wr.ownsRow (B + 1) 3 1 (.slice la n lc) n ((OP.some' b K xf j d1).map (Value.int .i64)) ∧ KpR (.slice la n lc) W8 wr ∧ Below w.heap.size w wr) (fun v _ => xt - (intOf v).toNat)
            case atStart => exact ⟨xf, rfl, Nat.le_refl _, by omega, by rw [OP.some_start]; exact own_below HR.out HB8.out, KpR.refl _ _, bnext HBW.out HB8.out⟩
            case round =>
              clear y3 y5 y9 z0 z1
              obtain ⟨j, rfl, hj1, hj2, hrow, hkp2, hbw2⟩ := hrel
              obtain ⟨y5, z0, z1⟩ := HD8.out wr hkp2
              by_cases hjt : j < xt
              · have hjti : (j : Int) < (xt : Int) := by omega
                have hjn : (j : Int) < (n : Int) := by omega
                have hj0 : (0 : Int) ≤ (j : Int) := by omega
                obtain ⟨lg, lcap, e, hBg, hlg, -⟩ := own_at hrow (by omega)
                injection e with e _ e2
                subst e e2
                have hsl := OP.some_len (b := b) (K := K) (d := d1) hj1 (by omega)
                rw [HN.out] at hsl
                have hce : ∃ z, wr.cell? ⟨lg, j, none⟩ = some (.int .i64 z) := by
                  have h := hrow.cellAt j (by omega)
                  rw [List.getElem?_map, List.getElem?_eq_getElem (by rw [hsl]; omega)] at h
                  exact ⟨_, h⟩
                obtain ⟨z, hcell⟩ := hce
                have hfr := hrow.frozenAt j
                obtain ⟨hst, hgr⟩ := hrow.stored j (.int .i64 d1)
                have hset : ((OP.some' b K xf j d1).map (Value.int .i64)).set j (.int .i64 d1) = (OP.some' b K xf (j + 1) d1).map (Value.int .i64) := by rw [← OP.some_step hj1 (by omega), List.map_set]
                rw [hset] at hst
                have hk2 : KpR (.slice (some ⟨lg, 0, none⟩) n lc) W8 (wr.setCell ⟨lg, j, none⟩ (.int .i64 d1)) := hkp2.row hgr
                have hb2 : Below w.heap.size w (wr.setCell ⟨lg, j, none⟩ (.int .i64 d1)) := bset hbw2 (by show w.heap.size ≤ lg; omega) _
                have HS := Lib.hid hst
                have HK2 := Lib.hid hk2
                have HB3 := Lib.hid hb2
                clear hst hk2 hb2 hset hgr hrow hkp2 hbw2
                gi_wp2
                go_roundw
                case rel => exact ⟨j + 1, by go_num, by omega, hjt, HS.out, HK2.out, HB3.out⟩
                case measure => simp [intOf]; omega
              · obtain rfl : xt = j := by omega
                rw [OP.some_end (by omega) hxtn HFP.out] at hrow
                have HS := Lib.hid hrow
                have HK2 := Lib.hid hkp2
                have HB3 := Lib.hid hbw2
                clear hrow hkp2 hbw2
                gi_wp2
                have hk0 : KpR (.slice la n lc) W wr := (KpR.of HB8.out).trans HK2.out
                refine ⟨keeps_row hk0 HR.out _, trivial, ?_⟩
                exact ⟨by rw [pendD_snoc]; exact g3, by rw [pendD_snoc]; exact HS.out, HKP.out.trans hk0, HB3.out, by rw [pendD_snoc]; exact HBD2.out⟩
          · have hne : (d1 != d2) = true := by simp [hdd]
            rw [if_neg hdd] at hfp
            clear hdd
            have HFP := Lib.hid hfp
            clear hfp
            gi_wp2_with fail
            gi_loopw [14] (fun v14 wr => ∃ j : Nat, v14 = .int .i64 (j : Int) ∧ xf ≤ j ∧ j ≤ xt ∧ wr.ownsRow (B + 1) 3 1 (.slice la n lc) n ((OP.some' b K xf j b).map (Value.int .i64)) ∧ KpR (.slice la n lc) W8 wr ∧ Below w.heap.size w wr) (fun v _ => xt - (intOf v).toNat)
            case atStart => exact ⟨xf, rfl, Nat.le_refl _, by omega, by rw [OP.some_start]; exact own_below HR.out HB8.out, KpR.refl _ _, bnext HBW.out HB8.out⟩
            case round =>
              clear y3 y5 y9 z0 z1
              obtain ⟨j, rfl, hj1, hj2, hrow, hkp2, hbw2⟩ := hrel
              obtain ⟨y5, z0, z1⟩ := HD8.out wr hkp2
              by_cases hjt : j < xt
              · have hjti : (j : Int) < (xt : Int) := by omega
                have hjn : (j : Int) < (n : Int) := by omega
                have hj0 : (0 : Int) ≤ (j : Int) := by omega
                obtain ⟨lg, lcap, e, hBg, hlg, -⟩ := own_at hrow (by omega)
                injection e with e _ e2
                subst e e2
                have hsl := OP.some_len (b := b) (K := K) (d := b) hj1 (by omega)
                rw [HN.out] at hsl
                have hce : ∃ z, wr.cell? ⟨lg, j, none⟩ = some (.int .i64 z) := by
                  have h := hrow.cellAt j (by omega)
                  rw [List.getElem?_map, List.getElem?_eq_getElem (by rw [hsl]; omega)] at h
                  exact ⟨_, h⟩
                obtain ⟨z, hcell⟩ := hce
                have hfr := hrow.frozenAt j
                obtain ⟨hst, hgr⟩ := hrow.stored j (.int .i64 b)
                have hset : ((OP.some' b K xf j b).map (Value.int .i64)).set j (.int .i64 b) = (OP.some' b K xf (j + 1) b).map (Value.int .i64) := by rw [← OP.some_step hj1 (by omega), List.map_set]
                rw [hset] at hst
                have hk2 : KpR (.slice (some ⟨lg, 0, none⟩) n lc) W8 (wr.setCell ⟨lg, j, none⟩ (.int .i64 b)) := hkp2.row hgr
                have hb2 : Below w.heap.size w (wr.setCell ⟨lg, j, none⟩ (.int .i64 b)) := bset hbw2 (by show w.heap.size ≤ lg; omega) _
                have HS := Lib.hid hst
                have HK2 := Lib.hid hk2
                have HB3 := Lib.hid hb2
                clear hst hk2 hb2 hset hgr hrow hkp2 hbw2
                gi_wp2
                go_roundw
                case rel => exact ⟨j + 1, by go_num, by omega, hjt, HS.out, HK2.out, HB3.out⟩
                case measure => simp [intOf]; omega
              · obtain rfl : xt = j := by omega
                rw [OP.some_end (by omega) hxtn HFP.out] at hrow
                have HS := Lib.hid hrow
                have HK2 := Lib.hid hkp2
                have HB3 := Lib.hid hbw2
                clear hrow hkp2 hbw2
                gi_wp2
                have hk0 : KpR (.slice la n lc) W wr := (KpR.of HB8.out).trans HK2.out
                refine ⟨keeps_row hk0 HR.out _, trivial, ?_⟩
                exact ⟨by rw [pendD_snoc]; exact g3, by rw [pendD_snoc]; exact HS.out, HKP.out.trans hk0, HB3.out, by rw [pendD_snoc]; exact HBD2.out⟩
      case done =>
        rintro D zs W hD hz ⟨hp, hrow, hkp, hbw, hbd⟩ hK
        obtain ⟨⟨x3, x5⟩, -⟩ := HX6.out W hkp
        rw [hz, OP.part_end HN.out] at hrow
        have hsz := HB6.out.size
        have HR := Lib.hid hrow
        have HBW := Lib.hid hbw
        clear hrow hbw hkp hbd hp
        gi_wp2
        refine ⟨by simp, .inl ⟨_, _, rfl, run_takeDeferred hK, ?_⟩⟩
        exact ⟨_, results_tmp rfl _ _ _, .slice la n lc, rfl, own_base (ownsRow_putObj HR.out _ hK rfl) (by omega), HBW.out.trans (belowK_b (w := w) (Nat.le_refl _) W D _ _ (by omega) hK rfl rfl)⟩
      case stop =>
        rintro D c pre W _ _ h _
        exact h.elim
theorem odirections_any (K : List Int) (b : Int) (v : Value) (w : World) (hv : Src w v (K.map (Value.int .i64))) (hl : K.length ≤ 1000000000) (hb : b = 1 ∨ b = 2) (hk : ∀ k ∈ K, k = 0 ∨ k = 1 ∨ k = 2 ∨ k = 3) :
    Calls Tryd.prog 31 #[v, .int .i64 b] w fun e W' => ∃ v', e = .returned v' ∧ W'.ownsRow w.heap.size 3 1 v' K.length ((OP.dirs b K).map (Value.int .i64)) ∧ Below w.heap.size w W' :=
  callsIn_wide.1 (odirections_in 3 (Nat.le_refl _) K b v w hv hl hb hk)
theorem KpR.own {v u : Value} {A B : World} {N e k n : Nat} {U : List Value} (h : KpR v A B) (ho : A.ownsRow N e k u n U) (hv : ∀ q, v.ownBlock = some q → u.ownBlock ≠ some q) : B.ownsRow N e k u n U := by
  refine ⟨ho.1, ?_⟩
  rcases ho.2 with h1 | ⟨g, cap, cur, rfl, hb, hg, rest⟩
  · exact .inl h1
  · refine .inr ⟨g, cap, cur, rfl, hb, ?_, rest⟩
    rw [h.2 g (Array.getElem?_eq_some_iff.1 hg).1 (fun e => hv g e rfl)]
    exact hg
end Go.Proofs.YtbgmbcngkmlfeaaDoor
