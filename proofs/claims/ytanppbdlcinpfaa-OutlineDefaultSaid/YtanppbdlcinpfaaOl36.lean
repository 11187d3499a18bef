/- All numbers of an outline, in order. No conditions. -/
import Derived.Test.YtanppbdlcinpfaaOl34z
import Derived.Test.YtanppbdlcinpfaaOl12
set_option linter.unusedSimpArgs false
set_option linter.unusedVariables false
namespace Go.Proofs.Ytanppbdlcinpfaa
set_option maxRecDepth 100000
set_option linter.unusedVariables false
open Go.RowKit Go.Deep
def OL.flat (l : List (Int × Int)) : List Int := l.flatMap fun p => [p.1, p.2]
theorem OL.flat_len (l : List (Int × Int)) : (OL.flat l).length = 2 * l.length := by
  unfold OL.flat
  induction l with
  | nil => rfl
  | cons a l ih => rw [List.flatMap_cons, List.length_append, ih, List.length_cons]; simp; omega
theorem OL.flat_take {N : List (Int × Int)} {t : Nat} {x y : Int} (h : N[t]? = some (x, y)) : OL.flat (N.take (t + 1)) = OL.flat (N.take t) ++ [x, y] := by
  unfold OL.flat
  rw [List.take_add_one, h, List.flatMap_append]
  rfl
/-- All numbers of an outline. -/
def OL.nl (d : Dr) : List Int := OL.flat (nums d.cs d.an) ++ [d.hg.x, d.hg.y, d.ad]
theorem nums_len (C : List (List Pt)) (A : List Ac) : (nums C A).length = OL.pts C + A.length := by
  unfold nums OL.pts
  rw [List.length_append, List.length_map, List.length_flatMap]
  congr 2
  exact List.map_congr_left fun x _ => by rw [List.length_map]
theorem OL.nl_len (d : Dr) : (OL.nl d).length = 2 * (OL.pts d.cs + d.an.length) + 3 := by
  unfold OL.nl
  rw [List.length_append, OL.flat_len, nums_len]
  rfl
set_option maxHeartbeats 8000000 in
theorem rnumbers_any (W : World) (v : Value) (d : Dr) (hv : DrAt W v d) (hok : CsOk d.cs) (hla : d.an.length ≤ 1000) :
    Calls Try.prog 23 #[v] W fun e w' => ∃ u, e = .returned u ∧ w'.ownsRow W.heap.size 3 1 u (OL.nl d).length ((OL.nl d).map (Value.int .i64)) ∧ Below W.heap.size W w' := by
  obtain ⟨ig, hig, hg0', hg1', hg2'⟩ := info_parts info_int
  obtain ⟨C, A, ⟨hc, hx, hy⟩, ad⟩ := d
  obtain ⟨vc, va, rfl, h1, h2⟩ := hv
  dsimp only at h1 h2 hok hla ⊢
  obtain ⟨ca, ck, rfl⟩ := h1.shape
  obtain ⟨aa, ak, rfl⟩ := h2.shape
  obtain ⟨cn, hcn⟩ : ∃ n, C.length = n := ⟨_, rfl⟩
  obtain ⟨an, han⟩ : ∃ n, A.length = n := ⟨_, rfl⟩
  rw [hcn] at h1 ⊢
  rw [han] at h2 hla ⊢
  have HGP := Lib.hid (And.intro h1 h2)
  have HLN : Hid (C.length = cn ∧ A.length = an) := Lib.hid ⟨hcn, han⟩
  have HN9 : Hid (cn ≤ 1000 ∧ an ≤ 1000) := Lib.hid ⟨by rw [← hcn]; exact hok.n, hla⟩
  have HOK := Lib.hid hok
  have HPB : Hid (∀ i, i ≤ cn → OL.pts (C.take i) ≤ 1000 * i) := Lib.hid (fun i _ => OL.pts_bd hok i)
  obtain ⟨N, hN⟩ : ∃ N, nums C A = N := ⟨_, rfl⟩
  have HNP : Hid ((∀ (i j : Nat) (c : List Pt) (p : Pt), C[i]? = some c → c[j]? = some p → N[OL.pts (C.take i) + j]? = some (p.x, p.y)) ∧ (∀ (j : Nat) (a : Ac), A[j]? = some a → N[OL.pts C + j]? = some (a.x, a.y)) ∧ nums C A = N) := Lib.hid ⟨fun i j c p h1 h2 => by rw [← hN]; exact nums_pt h1 h2, fun j a h => by rw [← hN]; exact nums_an h, hN⟩
  have HNN : Hid (N.length = OL.pts C + an) := Lib.hid (by rw [← hN, nums_len, han])
  obtain ⟨Z, hZ⟩ : ∃ Z, OL.nl ⟨C, A, ⟨hc, hx, hy⟩, ad⟩ = Z := ⟨_, rfl⟩
  have HZL : Hid (Z = OL.flat N ++ [hx, hy, ad]) := Lib.hid (by rw [← hZ]; unfold OL.nl; dsimp only; rw [hN])
  rw [hZ]
  clear h1 h2 hcn han hok hla hN hZ
  obtain ⟨B, hB⟩ : ∃ B, W.heap.size = B := ⟨_, rfl⟩
  have x0 := heap_alloc_new W (.cells #[.slice ca cn ck, .slice aa an ak, .int .i64 hc, .int .i64 hx, .int .i64 hy, .int .i64 ad] 41)
  have hb1 := balloc (Below.refl _ W) (.cells #[.slice ca cn ck, .slice aa an ak, .int .i64 hc, .int .i64 hx, .int .i64 hy, .int .i64 ad] 41)
  obtain ⟨W1, hW1⟩ : ∃ W1, W.alloc (.cells #[.slice ca cn ck, .slice aa an ak, .int .i64 hc, .int .i64 hx, .int .i64 hy, .int .i64 ad] 41) = W1 := ⟨_, rfl⟩
  rw [hW1] at x0 hb1
  rw [hB] at x0
  have HB1 := Lib.hid hb1
  have HX := Lib.hid hB
  have HGB : Hid (∀ U, Below W1.heap.size W1 U → U.heap[B]? = some (.cells #[.slice ca cn ck, .slice aa an ak, .int .i64 hc, .int .i64 hx, .int .i64 hy, .int .i64 ad] 41)) := Lib.hid fun U hU => (hU.block _ (Array.getElem?_eq_some_iff.1 x0).1).trans x0
  clear x0 hb1
  have HKG : Hid (∀ U, Below W1.heap.size W1 U → U.cell? ⟨B, 0, none⟩ = some (.slice ca cn ck) ∧ U.cell? ⟨B, 1, none⟩ = some (.slice aa an ak) ∧ U.cell? ⟨B, 2, none⟩ = some (.int .i64 hc) ∧ U.cell? ⟨B, 3, none⟩ = some (.int .i64 hx) ∧ U.cell? ⟨B, 4, none⟩ = some (.int .i64 hy) ∧ U.cell? ⟨B, 5, none⟩ = some (.int .i64 ad)) := Lib.hid fun U hU => by
    have h := HGB.out U hU
    exact ⟨nd_cell h rfl, nd_cell h rfl, nd_cell h rfl, nd_cell h rfl, nd_cell h rfl, nd_cell h rfl⟩
  go_enter Try.func23, Try.ntmps23
  go_upto_region 1 with fail
  try rw [hB]
  try rw [hW1]
  clear hW1 hB
  obtain ⟨g0, g1, g2, g3, g4, g5⟩ := HKG.out W1 (Below.refl _ _)
  go_upto_region 3 with fail
  go_loopw [3, 4] (fun v3 v4 wr => ∃ (i s k : Nat) (oa : Option Addr) (oc : Nat), v4 = .int .i64 (i : Int) ∧ v3 = .slice oa k oc ∧ i ≤ cn ∧ Hid (s = OL.pts (C.take i) ∧ k = 2 * s) ∧ Hid (wr.ownsRow W1.heap.size 3 1 (.slice oa k oc) k ((OL.flat (N.take s)).map (Value.int .i64))) ∧ Hid (Below W1.heap.size W1 wr)) (fun v3 v4 _ => cn - (intOf v4).toNat)
  case atStart => exact ⟨0, 0, 0, none, 0, rfl, rfl, Nat.zero_le _, Lib.hid ⟨rfl, rfl⟩, Lib.hid ⟨rfl, .inl ⟨rfl, rfl⟩⟩, Lib.hid (Below.refl _ _)⟩
  case round =>
    clear g0 g1 g2 g3 g4 g5
    obtain ⟨i, s, k, oa, oc, rfl, rfl, hi, HS, HOW, HB⟩ := hrel
    obtain ⟨g0, g1, g2, g3, g4, g5⟩ := HKG.out wr HB.out
    by_cases hin : i < cn
    · have hii : (i : Int) < (cn : Int) := by omega
      have hi0 : (0 : Int) ≤ (i : Int) := by omega
      obtain ⟨c, hc'⟩ : ∃ c, C[i]? = some c := ⟨_, List.getElem?_eq_getElem (by rw [HLN.out.1]; exact hin)⟩
      have hpt := OL.pts_take hc'
      obtain ⟨g, o, pa, pk, rfl, hg, hcell, hpt2⟩ := HGP.out.1.cell hc'
      have hcm := HOK.out.m c (List.mem_of_getElem? hc')
      obtain ⟨m, hm⟩ : ∃ m, c.length = m := ⟨_, rfl⟩
      rw [hm] at hcell hpt2 hcm
      have HCI := Lib.hid (And.intro hc' hm)
      have HSM : Hid (OL.pts (C.take (i + 1)) = s + m ∧ s = OL.pts (C.take i)) := Lib.hid (by have := HS.out.1; omega)
      have hs9 : s ≤ 1000000 := by have := HPB.out i hi; have := HS.out.1; have := HN9.out.1; omega
      have hi9 : i ≤ 1000 := by have := HN9.out; omega
      have HPT := Lib.hid hpt2
      have HCELL : Hid (∀ U, Below W1.heap.size W1 U → U.cell? ⟨g, o + i, none⟩ = some (.slice pa m pk)) := Lib.hid fun U hU => ((bnext HB1.out hU).cell (p := ⟨g, o + i, none⟩) hg).trans hcell
      obtain ⟨wo, hwo⟩ : ∃ w, w = wr := ⟨_, rfl⟩
      subst hwo
      clear hc' hpt hg hpt2 hm
      go_upto_region 5 with fail
      go_upto_region 6 with fail
      go_loopw [3, 5] (fun v3 v5 wr => ∃ (j k : Nat) (oa : Option Addr) (oc : Nat), v5 = .int .i64 (j : Int) ∧ v3 = .slice oa k oc ∧ j ≤ m ∧ Hid (k = 2 * (s + j)) ∧ Hid (wr.ownsRow W1.heap.size 3 1 (.slice oa k oc) k ((OL.flat (N.take (s + j))).map (Value.int .i64))) ∧ Hid (Below W1.heap.size W1 wr)) (fun v3 v5 _ => m - (intOf v5).toNat)
      case atStart => exact ⟨0, k, oa, oc, rfl, rfl, Nat.zero_le _, Lib.hid HS.out.2, HOW, HB⟩
      case round =>
        clear g0 g1 g2 g3 g4 g5 hcell HOW HB
        obtain ⟨j, k, oa, oc, rfl, rfl, hj, HK, HOW, HB⟩ := hrel
        obtain ⟨g0, g1, g2, g3, g4, g5⟩ := HKG.out wr HB.out
        have hcell := HCELL.out wr HB.out
        by_cases hjm : j < m
        · have hjj : (j : Int) < (m : Int) := by omega
          have hj0 : (0 : Int) ≤ (j : Int) := by omega
          have hk9 : k ≤ 2010000 := by have := HK.out; omega
          obtain ⟨p, hp⟩ : ∃ p, c[j]? = some p := ⟨_, List.getElem?_eq_getElem (by rw [HCI.out.2]; exact hjm)⟩
          obtain ⟨gP, oP, rfl, hgP, c0, c1, -⟩ := HPT.out.cell hp
          have HPJ := Lib.hid hp
          have HKS : Hid (∀ U, Below W1.heap.size W1 U → (U.cell? ⟨B, 0, none⟩ = some (.slice (some ⟨g, o, none⟩) cn ck) ∧ U.cell? ⟨g, o + i, none⟩ = some (.slice (some ⟨gP, oP, none⟩) m pk) ∧ U.cell? ⟨gP, oP + j * 3, none⟩ = some (.int .i64 p.x) ∧ U.cell? ⟨gP, oP + j * 3 + 1, none⟩ = some (.int .i64 p.y))) := Lib.hid fun U hU => by
            obtain ⟨g0, g1, g2, g3, g4, g5⟩ := HKG.out U hU
            exact ⟨g0, HCELL.out U hU, ((bnext HB1.out hU).cell (p := ⟨gP, oP + j * 3, none⟩) hgP).trans c0, ((bnext HB1.out hU).cell (p := ⟨gP, oP + j * 3 + 1, none⟩) hgP).trans c1⟩
          clear hp hgP c0 c1
          obtain ⟨-, -, c0, c1⟩ := HKS.out wr HB.out
          go_upto_region 8 with fail
          refine wp_region_held_drew (S := (fun U => U.cell? ⟨B, 0, none⟩ = some (.slice (some ⟨g, o, none⟩) cn ck) ∧ U.cell? ⟨g, o + i, none⟩ = some (.slice (some ⟨gP, oP, none⟩) m pk) ∧ U.cell? ⟨gP, oP + j * 3, none⟩ = some (.int .i64 p.x) ∧ U.cell? ⟨gP, oP + j * 3 + 1, none⟩ = some (.int .i64 p.y))) (by kernel_rfl) ?_ (fun hHeld => ?_)
          · exact HKS.out _ (Below.drew HB.out)
          refine wpAnyH_take (i := 0) (oi := { dst := some 24, op := Op.move (Operand.tmp 3), type := 22, pos := "ref.go:260", after := #[], guard := none }) (v := ?_) rfl (by kernel_rfl) (by kernel_rfl) (by kernel_rfl) (fun _ _ _ h => h) (Or.inl ⟨by rfl, ?_⟩) (by assumption) ?_
          rotate_left
          · ((intro w hSw; (try dsimp only at hSw); go_simp; (try rw [if_neg (by omega)])); try with_reducible rfl)
          (try simp only [Act.put, List.setIfInBounds_toArray, List.set_cons_zero, List.set_cons_succ])
          refine wpAnyH_take (i := 1) (oi := { dst := some 25, op := Op.fieldAddr 41 (Operand.tmp 1) 0, type := 0, pos := "ref.go:260", after := #[], guard := none }) (v := ?_) rfl (by kernel_rfl) (by kernel_rfl) (by kernel_rfl) (fun _ _ _ h => h) (Or.inl ⟨by rfl, ?_⟩) (by assumption) ?_
          rotate_left
          · ((intro w hSw; (try dsimp only at hSw); go_simp; (try rw [if_neg (by omega)])); try with_reducible rfl)
          (try simp only [Act.put, List.setIfInBounds_toArray, List.set_cons_zero, List.set_cons_succ])
          refine wpAnyH_take (i := 2) (oi := { dst := some 26, op := Op.load 27 (Operand.tmp 25), type := 27, pos := "ref.go:260", after := #[{ on := 1, ground := Ground.data }], guard := none }) (v := ?_) rfl (by kernel_rfl) (by kernel_rfl) (by kernel_rfl) (fun _ _ _ h => h) (Or.inl ⟨by rfl, ?_⟩) (by assumption) ?_
          rotate_left
          · ((intro w hSw; (try dsimp only at hSw); go_simp; (try rw [if_neg (by omega)])); try with_reducible rfl)
          (try simp only [Act.put, List.setIfInBounds_toArray, List.set_cons_zero, List.set_cons_succ])
          refine wpAnyH_take (i := 3) (oi := { dst := some 27, op := Op.move (Operand.tmp 4), type := 3, pos := "ref.go:260", after := #[], guard := none }) (v := ?_) rfl (by kernel_rfl) (by kernel_rfl) (by kernel_rfl) (fun _ _ _ h => h) (Or.inl ⟨by rfl, ?_⟩) (by assumption) ?_
          rotate_left
          · ((intro w hSw; (try dsimp only at hSw); go_simp; (try rw [if_neg (by omega)])); try with_reducible rfl)
          (try simp only [Act.put, List.setIfInBounds_toArray, List.set_cons_zero, List.set_cons_succ])
          refine wpAnyH_take (i := 4) (oi := { dst := some 28, op := Op.indexAddr 27 (Operand.tmp 26) (Operand.tmp 27), type := 0, pos := "ref.go:260", after := #[{ on := 2, ground := Ground.data }, { on := 3, ground := Ground.data }], guard := none }) (v := ?_) rfl (by kernel_rfl) (by kernel_rfl) (by kernel_rfl) (fun _ _ _ h => h) (Or.inl ⟨by rfl, ?_⟩) (by assumption) ?_
          rotate_left
          · ((intro w hSw; (try dsimp only at hSw); go_simp; (try rw [if_neg (by omega)])); try with_reducible rfl)
          (try simp only [Act.put, List.setIfInBounds_toArray, List.set_cons_zero, List.set_cons_succ])
          refine wpAnyH_take (i := 5) (oi := { dst := some 29, op := Op.load 53 (Operand.tmp 28), type := 53, pos := "ref.go:260", after := #[{ on := 4, ground := Ground.data }], guard := none }) (v := ?_) rfl (by kernel_rfl) (by kernel_rfl) (by kernel_rfl) (fun _ _ _ h => h) (Or.inl ⟨by rfl, ?_⟩) (by assumption) ?_
          rotate_left
          · ((intro w hSw; (try dsimp only at hSw); go_simp; (try rw [if_neg (by omega)])); try with_reducible rfl)
          (try simp only [Act.put, List.setIfInBounds_toArray, List.set_cons_zero, List.set_cons_succ])
          refine wpAnyH_take (i := 6) (oi := { dst := some 30, op := Op.move (Operand.tmp 5), type := 3, pos := "ref.go:260", after := #[], guard := none }) (v := ?_) rfl (by kernel_rfl) (by kernel_rfl) (by kernel_rfl) (fun _ _ _ h => h) (Or.inl ⟨by rfl, ?_⟩) (by assumption) ?_
          rotate_left
          · ((intro w hSw; (try dsimp only at hSw); go_simp; (try rw [if_neg (by omega)])); try with_reducible rfl)
          (try simp only [Act.put, List.setIfInBounds_toArray, List.set_cons_zero, List.set_cons_succ])
          refine wpAnyH_take (i := 7) (oi := { dst := some 31, op := Op.indexAddr 53 (Operand.tmp 29) (Operand.tmp 30), type := 0, pos := "ref.go:260", after := #[{ on := 5, ground := Ground.data }, { on := 6, ground := Ground.data }], guard := none }) (v := ?_) rfl (by kernel_rfl) (by kernel_rfl) (by kernel_rfl) (fun _ _ _ h => h) (Or.inl ⟨by rfl, ?_⟩) (by assumption) ?_
          rotate_left
          · ((intro w hSw; (try dsimp only at hSw); go_simp; (try rw [if_neg (by omega)])); try with_reducible rfl)
          (try simp only [Act.put, List.setIfInBounds_toArray, List.set_cons_zero, List.set_cons_succ])
          refine wpAnyH_take (i := 8) (oi := { dst := some 32, op := Op.fieldAddr 81 (Operand.tmp 31) 0, type := 0, pos := "ref.go:260", after := #[{ on := 7, ground := Ground.data }], guard := none }) (v := ?_) rfl (by kernel_rfl) (by kernel_rfl) (by kernel_rfl) (fun _ _ _ h => h) (Or.inl ⟨by rfl, ?_⟩) (by assumption) ?_
          rotate_left
          · ((intro w hSw; (try dsimp only at hSw); go_simp; (try rw [if_neg (by omega)])); try with_reducible rfl)
          (try simp only [Act.put, List.setIfInBounds_toArray, List.set_cons_zero, List.set_cons_succ])
          refine wpAnyH_take (i := 9) (oi := { dst := some 33, op := Op.load 3 (Operand.tmp 32), type := 3, pos := "ref.go:260", after := #[{ on := 8, ground := Ground.data }], guard := none }) (v := ?_) rfl (by kernel_rfl) (by kernel_rfl) (by kernel_rfl) (fun _ _ _ h => h) (Or.inl ⟨by rfl, ?_⟩) (by assumption) ?_
          rotate_left
          · ((intro w hSw; (try dsimp only at hSw); go_simp; (try rw [if_neg (by omega)])); try with_reducible rfl)
          (try simp only [Act.put, List.setIfInBounds_toArray, List.set_cons_zero, List.set_cons_succ])
          refine wpAnyH_take (i := 10) (oi := { dst := some 34, op := Op.fieldAddr 41 (Operand.tmp 1) 0, type := 0, pos := "ref.go:260", after := #[], guard := none }) (v := ?_) rfl (by kernel_rfl) (by kernel_rfl) (by kernel_rfl) (fun _ _ _ h => h) (Or.inl ⟨by rfl, ?_⟩) (by assumption) ?_
          rotate_left
          · ((intro w hSw; (try dsimp only at hSw); go_simp; (try rw [if_neg (by omega)])); try with_reducible rfl)
          (try simp only [Act.put, List.setIfInBounds_toArray, List.set_cons_zero, List.set_cons_succ])
          refine wpAnyH_take (i := 11) (oi := { dst := some 35, op := Op.load 27 (Operand.tmp 34), type := 27, pos := "ref.go:260", after := #[{ on := 10, ground := Ground.data }], guard := none }) (v := ?_) rfl (by kernel_rfl) (by kernel_rfl) (by kernel_rfl) (fun _ _ _ h => h) (Or.inl ⟨by rfl, ?_⟩) (by assumption) ?_
          rotate_left
          · ((intro w hSw; (try dsimp only at hSw); go_simp; (try rw [if_neg (by omega)])); try with_reducible rfl)
          (try simp only [Act.put, List.setIfInBounds_toArray, List.set_cons_zero, List.set_cons_succ])
          refine wpAnyH_take (i := 12) (oi := { dst := some 36, op := Op.move (Operand.tmp 4), type := 3, pos := "ref.go:260", after := #[], guard := none }) (v := ?_) rfl (by kernel_rfl) (by kernel_rfl) (by kernel_rfl) (fun _ _ _ h => h) (Or.inl ⟨by rfl, ?_⟩) (by assumption) ?_
          rotate_left
          · ((intro w hSw; (try dsimp only at hSw); go_simp; (try rw [if_neg (by omega)])); try with_reducible rfl)
          (try simp only [Act.put, List.setIfInBounds_toArray, List.set_cons_zero, List.set_cons_succ])
          refine wpAnyH_take (i := 13) (oi := { dst := some 37, op := Op.indexAddr 27 (Operand.tmp 35) (Operand.tmp 36), type := 0, pos := "ref.go:260", after := #[{ on := 11, ground := Ground.data }, { on := 12, ground := Ground.data }], guard := none }) (v := ?_) rfl (by kernel_rfl) (by kernel_rfl) (by kernel_rfl) (fun _ _ _ h => h) (Or.inl ⟨by rfl, ?_⟩) (by assumption) ?_
          rotate_left
          · ((intro w hSw; (try dsimp only at hSw); go_simp; (try rw [if_neg (by omega)])); try with_reducible rfl)
          (try simp only [Act.put, List.setIfInBounds_toArray, List.set_cons_zero, List.set_cons_succ])
          refine wpAnyH_take (i := 14) (oi := { dst := some 38, op := Op.load 53 (Operand.tmp 37), type := 53, pos := "ref.go:260", after := #[{ on := 13, ground := Ground.data }], guard := none }) (v := ?_) rfl (by kernel_rfl) (by kernel_rfl) (by kernel_rfl) (fun _ _ _ h => h) (Or.inl ⟨by rfl, ?_⟩) (by assumption) ?_
          rotate_left
          · ((intro w hSw; (try dsimp only at hSw); go_simp; (try rw [if_neg (by omega)])); try with_reducible rfl)
          (try simp only [Act.put, List.setIfInBounds_toArray, List.set_cons_zero, List.set_cons_succ])
          refine wpAnyH_take (i := 15) (oi := { dst := some 39, op := Op.move (Operand.tmp 5), type := 3, pos := "ref.go:260", after := #[], guard := none }) (v := ?_) rfl (by kernel_rfl) (by kernel_rfl) (by kernel_rfl) (fun _ _ _ h => h) (Or.inl ⟨by rfl, ?_⟩) (by assumption) ?_
          rotate_left
          · ((intro w hSw; (try dsimp only at hSw); go_simp; (try rw [if_neg (by omega)])); try with_reducible rfl)
          (try simp only [Act.put, List.setIfInBounds_toArray, List.set_cons_zero, List.set_cons_succ])
          refine wpAnyH_take (i := 16) (oi := { dst := some 40, op := Op.indexAddr 53 (Operand.tmp 38) (Operand.tmp 39), type := 0, pos := "ref.go:260", after := #[{ on := 14, ground := Ground.data }, { on := 15, ground := Ground.data }], guard := none }) (v := ?_) rfl (by kernel_rfl) (by kernel_rfl) (by kernel_rfl) (fun _ _ _ h => h) (Or.inl ⟨by rfl, ?_⟩) (by assumption) ?_
          rotate_left
          · ((intro w hSw; (try dsimp only at hSw); go_simp; (try rw [if_neg (by omega)])); try with_reducible rfl)
          (try simp only [Act.put, List.setIfInBounds_toArray, List.set_cons_zero, List.set_cons_succ])
          refine wpAnyH_take (i := 17) (oi := { dst := some 41, op := Op.fieldAddr 81 (Operand.tmp 40) 1, type := 0, pos := "ref.go:260", after := #[{ on := 16, ground := Ground.data }], guard := none }) (v := ?_) rfl (by kernel_rfl) (by kernel_rfl) (by kernel_rfl) (fun _ _ _ h => h) (Or.inl ⟨by rfl, ?_⟩) (by assumption) ?_
          rotate_left
          · ((intro w hSw; (try dsimp only at hSw); go_simp; (try rw [if_neg (by omega)])); try with_reducible rfl)
          (try simp only [Act.put, List.setIfInBounds_toArray, List.set_cons_zero, List.set_cons_succ])
          refine wpAnyH_take (i := 18) (oi := { dst := some 42, op := Op.load 3 (Operand.tmp 41), type := 3, pos := "ref.go:260", after := #[{ on := 17, ground := Ground.data }], guard := none }) (v := ?_) rfl (by kernel_rfl) (by kernel_rfl) (by kernel_rfl) (fun _ _ _ h => h) (Or.inl ⟨by rfl, ?_⟩) (by assumption) ?_
          rotate_left
          · ((intro w hSw; (try dsimp only at hSw); go_simp; (try rw [if_neg (by omega)])); try with_reducible rfl)
          (try simp only [Act.put, List.setIfInBounds_toArray, List.set_cons_zero, List.set_cons_succ])
          refine wpAnyH_ready (rs := [19]) (by kernel_rfl) (by simp) ?_
          refine AllReadyH.cons (o := { dst := some 43, op := Op.buildSlice 22 2 #[(0, Operand.tmp 33), (1, Operand.tmp 42)], type := 22, pos := "ref.go:260", after := #[{ on := 9, ground := Ground.data }, { on := 18, ground := Ground.data }], guard := none }) rfl (fun K hK => ?_) ?_
          · go_simp
            refine hK.out _ _ ?_ (fun hHeld => ?_)
            · exact HKS.out _ (balloc (Below.drew HB.out) (.cells #[.int .i64 p.x, .int .i64 p.y] 3))
            clear hK K
            (try simp only [Act.put, List.setIfInBounds_toArray, List.set_cons_zero, List.set_cons_succ])
            refine wpAnyH_ready (rs := [20]) (by kernel_rfl) (by simp) ?_
            refine AllReadyH.cons (o := { dst := some 44, op := Op.call { callee := Callee.builtin Builtin.append, args := #[Operand.tmp 24, Operand.tmp 43], argTypes := #[22, 22] }, type := 22, pos := "ref.go:260", after := #[{ on := 0, ground := Ground.data }, { on := 19, ground := Ground.data }], guard := none }) rfl (fun K hK => ?_) ?_
            · (refine step_appN (by rfl) _ _ _ (by rfl) W1.heap.size 3 ig _ 1 8 Try.underlying22 hig hg0' hg1' hg2' rfl (by decide) (.slice oa k oc) k _ (by rfl) (own_below HOW.out (balloc (Below.drew (Below.refl _ wr)) (.cells #[.int .i64 p.x, .int .i64 p.y] 3))) _ 2 ([p.x, p.y].map (Value.int .i64)) (by rfl) (srcN_new wr.drew ([p.x, p.y].map (Value.int .i64)) _ 1 2 2 rfl) (fun x hx => by obtain ⟨y, -, rfl⟩ := List.mem_map.1 hx; rfl) (by unfold maxLen; omega) (by omega) (by have := HB.out.size; simp; omega) ?_; intro v8 w8 hown hgrow hor; obtain ⟨na, nc, rfl⟩ := own_shape hown; have hb8 : Below W1.heap.size W1 w8 := (balloc (Below.drew HB.out) (.cells #[.int .i64 p.x, .int .i64 p.y] 3)).grown hgrow (by have := HB.out.size; simp; omega) (fun q e => (own_lt HOW.out e).1))
              refine hK.out _ _ ?_ (fun hHeld => ?_)
              · exact HKS.out _ hb8
              clear hK K
              (try simp only [Act.put, List.setIfInBounds_toArray, List.set_cons_zero, List.set_cons_succ])
              refine wpAnyH_take (i := 21) (oi := { dst := some 3, op := Op.assign (Operand.tmp 44), type := 22, pos := "ref.go:260", after := #[{ on := 20, ground := Ground.data }, { on := 20, ground := Ground.chain }, { on := 0, ground := Ground.phase }, { on := 1, ground := Ground.phase }, { on := 2, ground := Ground.phase }, { on := 3, ground := Ground.phase }, { on := 4, ground := Ground.phase }, { on := 5, ground := Ground.phase }, { on := 6, ground := Ground.phase }, { on := 7, ground := Ground.phase }, { on := 8, ground := Ground.phase }, { on := 9, ground := Ground.phase }, { on := 10, ground := Ground.phase }, { on := 11, ground := Ground.phase }, { on := 12, ground := Ground.phase }, { on := 13, ground := Ground.phase }, { on := 14, ground := Ground.phase }, { on := 15, ground := Ground.phase }, { on := 16, ground := Ground.phase }, { on := 17, ground := Ground.phase }, { on := 18, ground := Ground.phase }, { on := 19, ground := Ground.phase }, { on := 20, ground := Ground.phase }], guard := none }) (v := ?_) rfl (by kernel_rfl) (by kernel_rfl) (by kernel_rfl) (fun _ _ _ h => h) (Or.inl ⟨by rfl, ?_⟩) (by assumption) ?_
              rotate_left
              · ((intro w hSw; (try dsimp only at hSw); go_simp; (try rw [if_neg (by omega)])); try with_reducible rfl)
              (try simp only [Act.put, List.setIfInBounds_toArray, List.set_cons_zero, List.set_cons_succ])
              refine wpAnyH_done (by kernel_rfl) ?_ _
              clear hHeld
              have HOW8 : Hid (w8.ownsRow W1.heap.size 3 1 (.slice na (k + 2) nc) (k + 2) ((OL.flat (N.take (s + (j + 1)))).map (Value.int .i64))) := Lib.hid (by
                have hn : N[s + j]? = some (p.x, p.y) := by
                  have h := HNP.out.1 i j c p HCI.out.1 HPJ.out
                  rw [← HSM.out.2] at h
                  exact h
                rw [← Nat.add_assoc, OL.flat_take hn, List.map_append]
                exact hown)
              have HB8 := Lib.hid hb8
              clear hown hgrow hor hb8 c0 c1 hcell g0 g1 g2 g3 g4 g5
              go_simp
              go_wp2
              go_roundw
              case rel => exact ⟨j + 1, k + 2, na, nc, by go_num, rfl, by omega, Lib.hid (by have := HK.out; omega), HOW8, HB8⟩
              case measure => simp [intOf]; omega
            exact AllReadyH.nil
          exact AllReadyH.nil
        · have hjj : ¬ (j : Int) < (m : Int) := by omega
          obtain rfl : j = m := by omega
          clear hjm
          go_wp2
          go_roundw
          case rel => exact ⟨i + 1, s + j, k, oa, oc, by go_num, rfl, by omega, Lib.hid ⟨HSM.out.1.symm, HK.out⟩, HOW, HB⟩
          case measure => simp [intOf]; omega
    · have hii : ¬ (i : Int) < (cn : Int) := by omega
      have HSC : Hid (s = OL.pts C) := Lib.hid (by rw [HS.out.1, List.take_of_length_le (by rw [HLN.out.1]; omega)])
      have hs9 : s ≤ 1000000 := by have := HPB.out i hi; have := HS.out.1; have := HN9.out.1; omega
      have HK0 : Hid (k = 2 * (s + 0)) := Lib.hid HS.out.2
      clear hin
      go_upto_region 10 with fail
      clear hii
      go_loopw [3, 6] (fun v3 v6 wr => ∃ (i k : Nat) (oa : Option Addr) (oc : Nat), v6 = .int .i64 (i : Int) ∧ v3 = .slice oa k oc ∧ i ≤ an ∧ Hid (k = 2 * (s + i)) ∧ Hid (wr.ownsRow W1.heap.size 3 1 (.slice oa k oc) k ((OL.flat (N.take (s + i))).map (Value.int .i64))) ∧ Hid (Below W1.heap.size W1 wr)) (fun v3 v6 _ => an - (intOf v6).toNat)
      case atStart => exact ⟨0, k, oa, oc, rfl, rfl, Nat.zero_le _, HK0, HOW, HB⟩
      case round =>
        clear g0 g1 g2 g3 g4 g5 HOW HB HK0
        obtain ⟨i, k, oa, oc, rfl, rfl, hi, HK, HOW, HB⟩ := hrel
        obtain ⟨g0, g1, g2, g3, g4, g5⟩ := HKG.out wr HB.out
        have hk9 : k ≤ 2010000 := by have := HK.out; have := HN9.out; omega
        by_cases hin : i < an
        · have hii : (i : Int) < (an : Int) := by omega
          have hi0 : (0 : Int) ≤ (i : Int) := by omega
          have hi9 : i ≤ 1000 := by have := HN9.out; omega
          obtain ⟨a, ha⟩ : ∃ a, A[i]? = some a := ⟨_, List.getElem?_eq_getElem (by rw [HLN.out.2]; exact hin)⟩
          obtain ⟨gA, oA, rfl, hgA, -, c1, c2⟩ := HGP.out.2.cell ha
          have HAI := Lib.hid ha
          have HKS : Hid (∀ U, Below W1.heap.size W1 U → (U.cell? ⟨B, 1, none⟩ = some (.slice (some ⟨gA, oA, none⟩) an ak) ∧ U.cell? ⟨gA, oA + i * 3 + 1, none⟩ = some (.int .i64 a.x) ∧ U.cell? ⟨gA, oA + i * 3 + 2, none⟩ = some (.int .i64 a.y))) := Lib.hid fun U hU => by
            obtain ⟨g0, g1, g2, g3, g4, g5⟩ := HKG.out U hU
            exact ⟨g1, ((bnext HB1.out hU).cell (p := ⟨gA, oA + i * 3 + 1, none⟩) hgA).trans c1, ((bnext HB1.out hU).cell (p := ⟨gA, oA + i * 3 + 2, none⟩) hgA).trans c2⟩
          clear ha hgA c1 c2
          obtain ⟨-, c1, c2⟩ := HKS.out wr HB.out
          go_upto_region 12 with fail
          refine wp_region_held_drew (S := (fun U => U.cell? ⟨B, 1, none⟩ = some (.slice (some ⟨gA, oA, none⟩) an ak) ∧ U.cell? ⟨gA, oA + i * 3 + 1, none⟩ = some (.int .i64 a.x) ∧ U.cell? ⟨gA, oA + i * 3 + 2, none⟩ = some (.int .i64 a.y))) (by kernel_rfl) ?_ (fun hHeld => ?_)
          · exact HKS.out _ (Below.drew HB.out)
          refine wpAnyH_take (i := 0) (oi := { dst := some 52, op := Op.move (Operand.tmp 3), type := 22, pos := "ref.go:264", after := #[], guard := none }) (v := ?_) rfl (by kernel_rfl) (by kernel_rfl) (by kernel_rfl) (fun _ _ _ h => h) (Or.inl ⟨by rfl, ?_⟩) (by assumption) ?_
          rotate_left
          · ((intro w hSw; (try dsimp only at hSw); go_simp; (try rw [if_neg (by omega)])); try with_reducible rfl)
          (try simp only [Act.put, List.setIfInBounds_toArray, List.set_cons_zero, List.set_cons_succ])
          refine wpAnyH_take (i := 1) (oi := { dst := some 53, op := Op.fieldAddr 41 (Operand.tmp 1) 1, type := 0, pos := "ref.go:264", after := #[], guard := none }) (v := ?_) rfl (by kernel_rfl) (by kernel_rfl) (by kernel_rfl) (fun _ _ _ h => h) (Or.inl ⟨by rfl, ?_⟩) (by assumption) ?_
          rotate_left
          · ((intro w hSw; (try dsimp only at hSw); go_simp; (try rw [if_neg (by omega)])); try with_reducible rfl)
          (try simp only [Act.put, List.setIfInBounds_toArray, List.set_cons_zero, List.set_cons_succ])
          refine wpAnyH_take (i := 2) (oi := { dst := some 54, op := Op.load 28 (Operand.tmp 53), type := 28, pos := "ref.go:264", after := #[{ on := 1, ground := Ground.data }], guard := none }) (v := ?_) rfl (by kernel_rfl) (by kernel_rfl) (by kernel_rfl) (fun _ _ _ h => h) (Or.inl ⟨by rfl, ?_⟩) (by assumption) ?_
          rotate_left
          · ((intro w hSw; (try dsimp only at hSw); go_simp; (try rw [if_neg (by omega)])); try with_reducible rfl)
          (try simp only [Act.put, List.setIfInBounds_toArray, List.set_cons_zero, List.set_cons_succ])
          refine wpAnyH_take (i := 3) (oi := { dst := some 55, op := Op.move (Operand.tmp 6), type := 3, pos := "ref.go:264", after := #[], guard := none }) (v := ?_) rfl (by kernel_rfl) (by kernel_rfl) (by kernel_rfl) (fun _ _ _ h => h) (Or.inl ⟨by rfl, ?_⟩) (by assumption) ?_
          rotate_left
          · ((intro w hSw; (try dsimp only at hSw); go_simp; (try rw [if_neg (by omega)])); try with_reducible rfl)
          (try simp only [Act.put, List.setIfInBounds_toArray, List.set_cons_zero, List.set_cons_succ])
          refine wpAnyH_take (i := 4) (oi := { dst := some 56, op := Op.indexAddr 28 (Operand.tmp 54) (Operand.tmp 55), type := 0, pos := "ref.go:264", after := #[{ on := 2, ground := Ground.data }, { on := 3, ground := Ground.data }], guard := none }) (v := ?_) rfl (by kernel_rfl) (by kernel_rfl) (by kernel_rfl) (fun _ _ _ h => h) (Or.inl ⟨by rfl, ?_⟩) (by assumption) ?_
          rotate_left
          · ((intro w hSw; (try dsimp only at hSw); go_simp; (try rw [if_neg (by omega)])); try with_reducible rfl)
          (try simp only [Act.put, List.setIfInBounds_toArray, List.set_cons_zero, List.set_cons_succ])
          refine wpAnyH_take (i := 5) (oi := { dst := some 57, op := Op.fieldAddr 30 (Operand.tmp 56) 1, type := 0, pos := "ref.go:264", after := #[{ on := 4, ground := Ground.data }], guard := none }) (v := ?_) rfl (by kernel_rfl) (by kernel_rfl) (by kernel_rfl) (fun _ _ _ h => h) (Or.inl ⟨by rfl, ?_⟩) (by assumption) ?_
          rotate_left
          · ((intro w hSw; (try dsimp only at hSw); go_simp; (try rw [if_neg (by omega)])); try with_reducible rfl)
          (try simp only [Act.put, List.setIfInBounds_toArray, List.set_cons_zero, List.set_cons_succ])
          refine wpAnyH_take (i := 6) (oi := { dst := some 58, op := Op.load 3 (Operand.tmp 57), type := 3, pos := "ref.go:264", after := #[{ on := 5, ground := Ground.data }], guard := none }) (v := ?_) rfl (by kernel_rfl) (by kernel_rfl) (by kernel_rfl) (fun _ _ _ h => h) (Or.inl ⟨by rfl, ?_⟩) (by assumption) ?_
          rotate_left
          · ((intro w hSw; (try dsimp only at hSw); go_simp; (try rw [if_neg (by omega)])); try with_reducible rfl)
          (try simp only [Act.put, List.setIfInBounds_toArray, List.set_cons_zero, List.set_cons_succ])
          refine wpAnyH_take (i := 7) (oi := { dst := some 59, op := Op.fieldAddr 41 (Operand.tmp 1) 1, type := 0, pos := "ref.go:264", after := #[], guard := none }) (v := ?_) rfl (by kernel_rfl) (by kernel_rfl) (by kernel_rfl) (fun _ _ _ h => h) (Or.inl ⟨by rfl, ?_⟩) (by assumption) ?_
          rotate_left
          · ((intro w hSw; (try dsimp only at hSw); go_simp; (try rw [if_neg (by omega)])); try with_reducible rfl)
          (try simp only [Act.put, List.setIfInBounds_toArray, List.set_cons_zero, List.set_cons_succ])
          refine wpAnyH_take (i := 8) (oi := { dst := some 60, op := Op.load 28 (Operand.tmp 59), type := 28, pos := "ref.go:264", after := #[{ on := 7, ground := Ground.data }], guard := none }) (v := ?_) rfl (by kernel_rfl) (by kernel_rfl) (by kernel_rfl) (fun _ _ _ h => h) (Or.inl ⟨by rfl, ?_⟩) (by assumption) ?_
          rotate_left
          · ((intro w hSw; (try dsimp only at hSw); go_simp; (try rw [if_neg (by omega)])); try with_reducible rfl)
          (try simp only [Act.put, List.setIfInBounds_toArray, List.set_cons_zero, List.set_cons_succ])
          refine wpAnyH_take (i := 9) (oi := { dst := some 61, op := Op.move (Operand.tmp 6), type := 3, pos := "ref.go:264", after := #[], guard := none }) (v := ?_) rfl (by kernel_rfl) (by kernel_rfl) (by kernel_rfl) (fun _ _ _ h => h) (Or.inl ⟨by rfl, ?_⟩) (by assumption) ?_
          rotate_left
          · ((intro w hSw; (try dsimp only at hSw); go_simp; (try rw [if_neg (by omega)])); try with_reducible rfl)
          (try simp only [Act.put, List.setIfInBounds_toArray, List.set_cons_zero, List.set_cons_succ])
          refine wpAnyH_take (i := 10) (oi := { dst := some 62, op := Op.indexAddr 28 (Operand.tmp 60) (Operand.tmp 61), type := 0, pos := "ref.go:264", after := #[{ on := 8, ground := Ground.data }, { on := 9, ground := Ground.data }], guard := none }) (v := ?_) rfl (by kernel_rfl) (by kernel_rfl) (by kernel_rfl) (fun _ _ _ h => h) (Or.inl ⟨by rfl, ?_⟩) (by assumption) ?_
          rotate_left
          · ((intro w hSw; (try dsimp only at hSw); go_simp; (try rw [if_neg (by omega)])); try with_reducible rfl)
          (try simp only [Act.put, List.setIfInBounds_toArray, List.set_cons_zero, List.set_cons_succ])
          refine wpAnyH_take (i := 11) (oi := { dst := some 63, op := Op.fieldAddr 30 (Operand.tmp 62) 2, type := 0, pos := "ref.go:264", after := #[{ on := 10, ground := Ground.data }], guard := none }) (v := ?_) rfl (by kernel_rfl) (by kernel_rfl) (by kernel_rfl) (fun _ _ _ h => h) (Or.inl ⟨by rfl, ?_⟩) (by assumption) ?_
          rotate_left
          · ((intro w hSw; (try dsimp only at hSw); go_simp; (try rw [if_neg (by omega)])); try with_reducible rfl)
          (try simp only [Act.put, List.setIfInBounds_toArray, List.set_cons_zero, List.set_cons_succ])
          refine wpAnyH_take (i := 12) (oi := { dst := some 64, op := Op.load 3 (Operand.tmp 63), type := 3, pos := "ref.go:264", after := #[{ on := 11, ground := Ground.data }], guard := none }) (v := ?_) rfl (by kernel_rfl) (by kernel_rfl) (by kernel_rfl) (fun _ _ _ h => h) (Or.inl ⟨by rfl, ?_⟩) (by assumption) ?_
          rotate_left
          · ((intro w hSw; (try dsimp only at hSw); go_simp; (try rw [if_neg (by omega)])); try with_reducible rfl)
          (try simp only [Act.put, List.setIfInBounds_toArray, List.set_cons_zero, List.set_cons_succ])
          refine wpAnyH_ready (rs := [13]) (by kernel_rfl) (by simp) ?_
          refine AllReadyH.cons (o := { dst := some 65, op := Op.buildSlice 22 2 #[(0, Operand.tmp 58), (1, Operand.tmp 64)], type := 22, pos := "ref.go:264", after := #[{ on := 6, ground := Ground.data }, { on := 12, ground := Ground.data }], guard := none }) rfl (fun K hK => ?_) ?_
          · go_simp
            refine hK.out _ _ ?_ (fun hHeld => ?_)
            · exact HKS.out _ (balloc (Below.drew HB.out) (.cells #[.int .i64 a.x, .int .i64 a.y] 3))
            clear hK K
            (try simp only [Act.put, List.setIfInBounds_toArray, List.set_cons_zero, List.set_cons_succ])
            refine wpAnyH_ready (rs := [14]) (by kernel_rfl) (by simp) ?_
            refine AllReadyH.cons (o := { dst := some 66, op := Op.call { callee := Callee.builtin Builtin.append, args := #[Operand.tmp 52, Operand.tmp 65], argTypes := #[22, 22] }, type := 22, pos := "ref.go:264", after := #[{ on := 0, ground := Ground.data }, { on := 13, ground := Ground.data }], guard := none }) rfl (fun K hK => ?_) ?_
            · (refine step_appN (by rfl) _ _ _ (by rfl) W1.heap.size 3 ig _ 1 8 Try.underlying22 hig hg0' hg1' hg2' rfl (by decide) (.slice oa k oc) k _ (by rfl) (own_below HOW.out (balloc (Below.drew (Below.refl _ wr)) (.cells #[.int .i64 a.x, .int .i64 a.y] 3))) _ 2 ([a.x, a.y].map (Value.int .i64)) (by rfl) (srcN_new wr.drew ([a.x, a.y].map (Value.int .i64)) _ 1 2 2 rfl) (fun x hx => by obtain ⟨y, -, rfl⟩ := List.mem_map.1 hx; rfl) (by unfold maxLen; omega) (by omega) (by have := HB.out.size; simp; omega) ?_; intro v8 w8 hown hgrow hor; obtain ⟨na, nc, rfl⟩ := own_shape hown; have hb8 : Below W1.heap.size W1 w8 := (balloc (Below.drew HB.out) (.cells #[.int .i64 a.x, .int .i64 a.y] 3)).grown hgrow (by have := HB.out.size; simp; omega) (fun q e => (own_lt HOW.out e).1))
              refine hK.out _ _ ?_ (fun hHeld => ?_)
              · exact HKS.out _ hb8
              clear hK K
              (try simp only [Act.put, List.setIfInBounds_toArray, List.set_cons_zero, List.set_cons_succ])
              refine wpAnyH_take (i := 15) (oi := { dst := some 3, op := Op.assign (Operand.tmp 66), type := 22, pos := "ref.go:264", after := #[{ on := 14, ground := Ground.data }, { on := 14, ground := Ground.chain }, { on := 0, ground := Ground.phase }, { on := 1, ground := Ground.phase }, { on := 2, ground := Ground.phase }, { on := 3, ground := Ground.phase }, { on := 4, ground := Ground.phase }, { on := 5, ground := Ground.phase }, { on := 6, ground := Ground.phase }, { on := 7, ground := Ground.phase }, { on := 8, ground := Ground.phase }, { on := 9, ground := Ground.phase }, { on := 10, ground := Ground.phase }, { on := 11, ground := Ground.phase }, { on := 12, ground := Ground.phase }, { on := 13, ground := Ground.phase }, { on := 14, ground := Ground.phase }], guard := none }) (v := ?_) rfl (by kernel_rfl) (by kernel_rfl) (by kernel_rfl) (fun _ _ _ h => h) (Or.inl ⟨by rfl, ?_⟩) (by assumption) ?_
              rotate_left
              · ((intro w hSw; (try dsimp only at hSw); go_simp; (try rw [if_neg (by omega)])); try with_reducible rfl)
              (try simp only [Act.put, List.setIfInBounds_toArray, List.set_cons_zero, List.set_cons_succ])
              refine wpAnyH_done (by kernel_rfl) ?_ _
              clear hHeld
              have HOW8 : Hid (w8.ownsRow W1.heap.size 3 1 (.slice na (k + 2) nc) (k + 2) ((OL.flat (N.take (s + (i + 1)))).map (Value.int .i64))) := Lib.hid (by
                have hn : N[s + i]? = some (a.x, a.y) := by
                  have h := HNP.out.2.1 i a HAI.out
                  rw [← HSC.out] at h
                  exact h
                rw [← Nat.add_assoc, OL.flat_take hn, List.map_append]
                exact hown)
              have HB8 := Lib.hid hb8
              clear hown hgrow hor hb8 c1 c2 g0 g1 g2 g3 g4 g5
              go_simp
              go_wp2
              go_roundw
              case rel => exact ⟨i + 1, k + 2, na, nc, by go_num, rfl, by omega, Lib.hid (by have := HK.out; omega), HOW8, HB8⟩
              case measure => simp [intOf]; omega
            exact AllReadyH.nil
          exact AllReadyH.nil
        · have hii : ¬ (i : Int) < (an : Int) := by omega
          obtain rfl : i = an := by omega
          have HOWN : Hid (wr.ownsRow W1.heap.size 3 1 (.slice oa k oc) k ((OL.flat N).map (Value.int .i64))) := Lib.hid (by
            have h := HOW.out
            rw [List.take_of_length_le (by have := HNN.out; have := HSC.out; omega)] at h
            exact h)
          have HSZ : Hid (W1.heap.size ≤ wr.heap.size) := Lib.hid HB.out.size
          clear hin
          go_wp2_with (at_builtin; refine wpList_appN _ rfl _ _ 22 rfl W1.heap.size 3 ig (.int .i64 0) 1 8 Try.underlying22 hig hg0' hg1' hg2' rfl (by decide) _ k _ rfl (own_below HOWN.out (balloc (Below.refl _ _) _)) _ 3 ([hx, hy, ad].map (Value.int .i64)) rfl (srcN_new _ ([hx, hy, ad].map (Value.int .i64)) _ 1 3 3 rfl) (fun x hx => by obtain ⟨y, -, rfl⟩ := List.mem_map.1 hx; rfl) (by unfold maxLen; omega) (by omega) (by have := HSZ.out; simp; omega) ?_; intro v6 w6 hown hgrow hor; obtain ⟨na, nc, rfl⟩ := own_shape hown)
          have HOW6 : Hid (w6.ownsRow W.heap.size 3 1 (.slice na (k + 3) nc) Z.length (Z.map (Value.int .i64))) := Lib.hid (by
            have hl : Z.length = k + 3 := by
              rw [HZL.out, List.length_append, OL.flat_len, HNN.out, HK.out, HSC.out]
              rfl
            rw [hl, HZL.out, List.map_append]
            exact own_rebase hown (by have := HB1.out.size; omega))
          have HB6 : Hid (Below W.heap.size W w6) := Lib.hid ((balloc (bnext HB1.out HB.out) (.cells #[.int .i64 hx, .int .i64 hy, .int .i64 ad] 3)).grown hgrow (by have := HSZ.out; have := HB1.out.size; simp; omega) (fun q e => by have := (own_lt HOWN.out e).1; have := HB1.out.size; omega))
          clear hown hgrow hor
          go_wp2
          go_ret
          exact ⟨_, rfl, HOW6.out, HB6.out⟩
end Go.Proofs.Ytanppbdlcinpfaa
