/- For every axis, numbers and change AxesChecks returns true: Check and Normal answer what the reference answers. No conditions. -/
import Derived.Test.YtbhkbjnmpaebdaaAxM
import Derived.Test.YtbhkbjnmpaebdaaLast
import Derived.Test.YtbhkbjnmpaebdaaHeldIn
import Derived.Deep.CutBlock
import Derived.Deep.CutRange
namespace Go.Proofs.Ytbhkbjnmpaebdaa.axesChecks
open Go.ChangeShapes Go.WideShapes Go.ChangeAt Go.RowKit Go.Joins Go.Deep
set_option linter.unusedVariables false

/-- An axis in a block of its own. -/
def AxB (V : World) (g : Nat) (x : AX.Ax) (v : Value) : Prop := V.heap[g]? = some (.cells #[.string x.name, .int .i64 x.lo, .int .i64 x.de, .int .i64 x.hi, v] 24 (0, 0))
theorem AxB.set0 {V : World} {g : Nat} {x : AX.Ax} {v : Value} (h : AxB V g x v) (s : ByteArray) : AxB (V.setCell ⟨g, 0, none⟩ (.string s)) g { x with name := s } v := heap_setCell_same V g 0 _ _ _ h
theorem AxB.set1 {V : World} {g : Nat} {x : AX.Ax} {v : Value} (h : AxB V g x v) (s : Int) : AxB (V.setCell ⟨g, 1, none⟩ (.int .i64 s)) g { x with lo := s } v := heap_setCell_same V g 1 _ _ _ h
theorem AxB.set2 {V : World} {g : Nat} {x : AX.Ax} {v : Value} (h : AxB V g x v) (s : Int) : AxB (V.setCell ⟨g, 2, none⟩ (.int .i64 s)) g { x with de := s } v := heap_setCell_same V g 2 _ _ _ h
theorem AxB.set3 {V : World} {g : Nat} {x : AX.Ax} {v : Value} (h : AxB V g x v) (s : Int) : AxB (V.setCell ⟨g, 3, none⟩ (.int .i64 s)) g { x with hi := s } v := heap_setCell_same V g 3 _ _ _ h
theorem AxB.set4 {V : World} {g : Nat} {x : AX.Ax} {v : Value} (h : AxB V g x v) (m : List AX.Pr) (u : Value) : AxB (V.setCell ⟨g, 4, none⟩ u) g { x with map := m } u := heap_setCell_same V g 4 _ _ _ h
theorem tmod_bd (a : Int) {n : Int} (h : 0 < n) : -(n - 1) ≤ a.tmod n ∧ a.tmod n ≤ n - 1 := by
  have h1 := Int.tmod_lt_of_pos a h
  have h2 := Int.lt_tmod_of_pos a h
  omega
theorem pr_own {W : World} {B : Nat} {v : Value} {l : List AX.Pr} (h : W.ownsRow B 30 2 v l.length (AX.prc l)) : PrAt W v l := (own_srcN h).pr
theorem pr_own' {W : World} {B n : Nat} {v : Value} {l : List AX.Pr} (hn : l.length = n) (h : W.ownsRow B 30 2 v n (AX.prc l)) : PrAt W v l := by subst hn; exact pr_own h
theorem pr_take {W : World} {a : Option Addr} {n c k : Nat} {l : List AX.Pr} (h : PrAt W (.slice a n c) l) (hk : k ≤ l.length) : PrAt W (.slice a k c) (l.take k) := by
  obtain ⟨a', c', e, h⟩ := h
  injection e with e1 e2 e3
  subst e1 e3
  have hl : (l.take k).length = k := by rw [List.length_take]; omega
  refine ⟨_, _, by rw [hl], ?_⟩
  rcases h with h | ⟨g, o, e4, hg, hc⟩
  · exact .inl (by rw [h]; simp)
  · refine .inr ⟨g, o, e4, hg, fun i x hx => hc i x ?_⟩
    rw [List.getElem?_take] at hx
    split at hx
    · exact hx
    · cases hx
theorem AxB.lt {V : World} {g : Nat} {x : AX.Ax} {v : Value} (h : AxB V g x v) : g < V.heap.size := (Array.getElem?_eq_some_iff.1 h).1
theorem AxB.keep {V W : World} {g : Nat} {x : AX.Ax} {v : Value} (h : AxB V g x v) (hb : Below V.heap.size V W) : AxB W g x v := (hb.block g h.lt).trans h
theorem app_keep {wq w6 : World} {D : Nat} {x : AX.Ax} {v u : Value} {tmp : Obj} (h : AxB wq D x v) (hn : u.ownBlock ≠ some D) (hg : (wq.alloc tmp).grownBy w6 u.ownBlock) : AxB w6 D x v := by
  have h1 := h.keep (balloc (Below.refl _ wq) tmp)
  exact (hg.block D h1.lt (fun e => hn e.symm)).trans h1
theorem app_ne {wq : World} {D : Nat} {x : AX.Ax} {v u v' : Value} {tmp : Obj} (h : AxB wq D x v) (hn : u.ownBlock ≠ some D) (hat : v'.ownBlock = u.ownBlock ∨ v'.ownBlock = some (wq.alloc tmp).heap.size) : v'.ownBlock ≠ some D := by
  intro e
  rcases hat with h1 | h1
  · exact hn (h1.symm.trans e)
  · have h2 := Option.some.inj (h1.symm.trans e)
    have := h.lt
    simp at h2
    omega
theorem AxB.cells {V : World} {g : Nat} {x : AX.Ax} {v : Value} (h : AxB V g x v) : V.cell? ⟨g, 0, none⟩ = some (.string x.name) ∧ V.cell? ⟨g, 1, none⟩ = some (.int .i64 x.lo) ∧ V.cell? ⟨g, 2, none⟩ = some (.int .i64 x.de) ∧ V.cell? ⟨g, 3, none⟩ = some (.int .i64 x.hi) ∧ V.cell? ⟨g, 4, none⟩ = some v := by
  unfold AxB at h
  exact ⟨cell_of h rfl, cell_of h rfl, cell_of h rfl, cell_of h rfl, cell_of h rfl⟩
theorem AxB.frozen {V : World} {g : Nat} {x : AX.Ax} {v : Value} (h : AxB V g x v) (j : Nat) : V.frozen? ⟨g, j, none⟩ = false := by
  unfold AxB at h
  exact frozen_of h j
theorem AxB.new (w : World) (x : AX.Ax) (v : Value) : AxB (w.alloc (.cells #[.string x.name, .int .i64 x.lo, .int .i64 x.de, .int .i64 x.hi, v] 24)) w.heap.size x v := heap_alloc_new w _
theorem AxB.set5 {V : World} {g : Nat} {x : AX.Ax} {v : Value} (h : AxB V g x v) (y : AX.Ax) (u : Value) : AxB (((((V.setCell ⟨g, 0, none⟩ (.string y.name)).setCell ⟨g, 1, none⟩ (.int .i64 y.lo)).setCell ⟨g, 2, none⟩ (.int .i64 y.de)).setCell ⟨g, 3, none⟩ (.int .i64 y.hi)).setCell ⟨g, 4, none⟩ u) g y u := five_set h _ _ _ _ _
set_option maxRecDepth 100000 in
set_option maxHeartbeats 16000000 in
theorem walk (u0 : Value) (x0 : AX.Ax) (v1 : Value) (a1 : List Int) (a2 : Int) (b2 : Int) (c2 : Int) (wa2 : (Lit.int .i64 a2).wf = true) (wb2 : (Lit.int .i64 b2).wf = true) (wc2 : (Lit.int .i64 c2).wf = true) (w : World) (H0 : PrArg w u0 x0.map ∧ x0.name.size ≤ maxLen ∧ (-9223372036854775808 ≤ x0.lo ∧ x0.lo ≤ 9223372036854775807) ∧ (-9223372036854775808 ≤ x0.de ∧ x0.de ≤ 9223372036854775807) ∧ (-9223372036854775808 ≤ x0.hi ∧ x0.hi ≤ 9223372036854775807)) (H1 : InArg w v1 a1) :
    Calls Try.prog 3 #[AxV u0 x0, v1, .agg #[.int .i64 a2, .int .i64 b2, .int .i64 c2]] w fun e w' => e = .returned (.bool true) ∧ Below w.heap.size w w' := by
  obtain ⟨ip, hip, hq0, hq1, hq2⟩ := info_parts info_pr
  obtain ⟨⟨hsrc, hplen, hpcap⟩, hns, hlo, hde, hhi⟩ := H0
  have hsrc' := hsrc
  obtain ⟨pa, pc, rfl, -, -⟩ := hsrc'
  have HL0 := Lib.hid H1
  have HPC : Hid (∀ a n c, Value.slice pa x0.map.length pc = .slice a n c → n ≤ c) := Lib.hid fun a n c h => (hpcap a n c h).1
  have HNS := Lib.hid hns
  clear H1 hpcap hns hlo hde hhi hplen
  obtain ⟨pn, hpn⟩ : ∃ pn, x0.map.length = pn := ⟨_, rfl⟩
  have HPN := Lib.hid hpn
  have HSRC : Hid (∀ V, Below w.heap.size w V → SrcN 2 V (.slice pa pn pc) x0.map.length (AX.prc x0.map)) := Lib.hid fun V hV => by
    rw [← hpn]
    exact hsrc.keep hV
  rw [hpn] at HPC
  unfold AxV
  rw [hpn]
  clear hsrc hpn
  obtain ⟨B, hB⟩ : ∃ B, w.heap.size = B := ⟨_, rfl⟩
  obtain ⟨W0, hW0, b0, b1, bel0, hsz0⟩ := two_blocks w (.cells #[.string x0.name, .int .i64 x0.lo, .int .i64 x0.de, .int .i64 x0.hi, .slice pa pn pc] 24) (.cells #[.int .i64 a2, .int .i64 b2, .int .i64 c2] 26) B hB
  have HX0 : Hid (∀ V, Below W0.heap.size W0 V → AxB V B x0 (.slice pa pn pc)) := Lib.hid fun V hV => (hV.block B (Array.getElem?_eq_some_iff.1 b0).1).trans b0
  have HQ0 : Hid (∀ V, Below W0.heap.size W0 V → V.heap[B + 1]? = some (.cells #[.int .i64 a2, .int .i64 b2, .int .i64 c2] 26 (0, 0))) := Lib.hid fun V hV => (hV.block (B + 1) (Array.getElem?_eq_some_iff.1 b1).1).trans b1
  have HB0 := Lib.hid bel0
  have HSZ0 := Lib.hid hsz0
  have HBB := Lib.hid hB
  have hb2 := bd64 wb2
  have hc2 := bd64 wc2
  have ha2 := bd64 wa2
  clear b0 b1 bel0 hsz0
  go_enter Try.func3, Try.ntmps3
  go_upto_region 1 with fail
  try rw [hW0]
  try rw [hB]
  clear hW0 hB
  go_wp2_with fail
  refine (sane_any _).mono ?_
  rintro e w1 ⟨rfl, hb1⟩
  have HB1 := Lib.hid hb1
  obtain ⟨s0, s1, s2, s3, s4⟩ := (HX0.out w1 hb1).cells
  clear hb1
  go_wp2_with fail
  refine (short_any x0 (.slice pa pn pc) w1 (HSRC.out _ (bnext HB0.out HB1.out)) HPC.out HNS.out).mono ?_
  rintro e w2 ⟨vr, xr, rfl, hx8, hx20, hor, hb2'⟩
  have HX20 := Lib.hid hx20
  obtain ⟨ra, rc, rfl⟩ := own_shape hor
  have ax2 := HX0.out w2 (bnext HB1.out hb2')
  have f0 := ax2.frozen 0
  have f1 := ax2.frozen 1
  have f2 := ax2.frozen 2
  have f3 := ax2.frozen 3
  have f4 := ax2.frozen 4
  have HB2 := Lib.hid hb2'
  have HOR := Lib.hid hor
  have hlt := ax2.lt
  have h2 := hb2'.size
  have h1 := HB1.out.size
  obtain ⟨s0, s1, s2, s3, s4⟩ := ax2.cells
  unfold AxV
  clear hor hb2'
  go_upto_region 3 with fail
  have ax3 := ax2.set5 xr (.slice ra xr.map.length rc)
  have hor3 := own_of_grown HOR.out (five_kept w2 B (.string xr.name) (.int .i64 xr.lo) (.int .i64 xr.de) (.int .i64 xr.hi) (.slice ra xr.map.length rc)) (fun q h e => by have := (HOR.out.lt q h).1; have := Option.some.inj e; have := HSZ0.out; omega)
  have hq3 := ((five_kept w2 B (.string xr.name) (.int .i64 xr.lo) (.int .i64 xr.de) (.int .i64 xr.hi) (.slice ra xr.map.length rc)).block (B + 1) (Array.getElem?_eq_some_iff.1 (HQ0.out w2 (bnext HB1.out HB2.out))).1 (fun e => by have := Option.some.inj e; omega)).trans (HQ0.out w2 (bnext HB1.out HB2.out))
  have hb3 : Below w.heap.size w (((((w2.setCell ⟨B, 0, none⟩ (.string xr.name)).setCell ⟨B, 1, none⟩ (.int .i64 xr.lo)).setCell ⟨B, 2, none⟩ (.int .i64 xr.de)).setCell ⟨B, 3, none⟩ (.int .i64 xr.hi)).setCell ⟨B, 4, none⟩ (.slice ra xr.map.length rc)) := (bnext HB0.out (bnext HB1.out HB2.out)).grown (five_kept w2 B _ _ _ _ _) (bnext HB0.out (bnext HB1.out HB2.out)).size (fun k e => by have := Option.some.inj e; have := HBB.out; omega)
  obtain ⟨W3, hW3⟩ : ∃ W3, (((((w2.setCell ⟨B, 0, none⟩ (.string xr.name)).setCell ⟨B, 1, none⟩ (.int .i64 xr.lo)).setCell ⟨B, 2, none⟩ (.int .i64 xr.de)).setCell ⟨B, 3, none⟩ (.int .i64 xr.hi)).setCell ⟨B, 4, none⟩ (.slice ra xr.map.length rc)) = W3 := ⟨_, rfl⟩
  rw [hW3] at ax3 hor3 hq3 hb3 ⊢
  have HIA : Hid (∀ V, Below w.heap.size w V → InArg V v1 a1) := Lib.hid fun V hV => HL0.out.keep hV
  obtain ⟨xm, hxm⟩ : ∃ xm, AX.mkAxis a1 ⟨#[97, 98, 49]⟩ = xm := ⟨_, rfl⟩
  have HMA : Hid (∀ V, Below w.heap.size w V → Calls Try.prog 13 #[v1, .string ⟨#[97, 98, 49]⟩] V fun e w' => ∃ v', e = .returned (.agg #[.string xm.name, .int .i64 xm.lo, .int .i64 xm.de, .int .i64 xm.hi, v']) ∧ w'.ownsRow V.heap.size 30 2 v' xm.map.length (AX.prc xm.map) ∧ Below V.heap.size V w') := Lib.hid fun V hV => by
    have h := madeaxis_any a1 ⟨#[97, 98, 49]⟩ v1 V (HIA.out V hV).1 (HIA.out V hV).2.1
    rw [hxm] at h
    exact h
  have hck : AX.check xm = 0 := by rw [← hxm]; exact AX.mkAxis_check a1 (by decide +kernel)
  have hnm : xm.name.size = 3 := by rw [← hxm]; rfl
  obtain ⟨-, k1, k2, k3, k4, k5⟩ := AX.check_zero hck
  have k6 : AX.endsOk xm = true := by
    unfold AX.isMap at k5
    rw [Bool.and_eq_true] at k5
    exact k5.1
  obtain ⟨k7, k8, -, -⟩ := (AX.ends_iff xm).1 k6
  have HCK := Lib.hid hck
  have HNM := Lib.hid hnm
  obtain ⟨n, hn⟩ : ∃ n, xm.map.length = n := ⟨_, rfl⟩
  have HN := Lib.hid hn
  rw [hn] at HMA k7 k8
  have HR3 := Lib.hid hor3
  have HAX3 := Lib.hid ax3
  have HQ3 := Lib.hid hq3
  have HB3 := Lib.hid hb3
  clear hW3 hor3 hq3 hb3 ax3 s0 s1 s2 s3 s4 f0 f1 f2 f3 f4 ax2 hck hnm k5 k6 hn hxm hlt h2 h1
  go_wp2_with fail
  refine (HMA.out _ HB3.out).mono ?_
  rintro e w4 ⟨va, rfl, hoa, hb4⟩
  obtain ⟨aa, ac, rfl⟩ := own_shape hoa
  have HB34 := Lib.hid hb4
  have HOA := Lib.hid hoa
  clear hoa hb4
  go_upto_region 4 with fail
  obtain ⟨C, hC⟩ : ∃ C, w4.heap.size = C := ⟨_, rfl⟩
  obtain ⟨W4, hW4⟩ : ∃ W4, w4.alloc (.cells #[.string xm.name, .int .i64 xm.lo, .int .i64 xm.de, .int .i64 xm.hi, .slice aa n ac] 24) = W4 := ⟨_, rfl⟩
  have hba := AxB.new w4 xm (.slice aa n ac)
  have hb44 : Below w4.heap.size w4 W4 := by rw [← hW4]; exact balloc (Below.refl _ _) _
  rw [hW4, hC] at hba
  try rw [hW4]
  try rw [hC]
  have HBA := Lib.hid hba
  have HRA : Hid (∀ V, Below W4.heap.size W4 V → PrAt V (.slice aa n ac) xm.map) := Lib.hid fun V hV => (pr_own (by rw [HN.out]; exact HOA.out)).keep (bnext hb44 hV)
  have HRR : Hid (∀ V, Below W4.heap.size W4 V → PrAt V (.slice ra xr.map.length rc) xr.map) := Lib.hid fun V hV => (pr_own HR3.out).keep (bnext HB34.out (bnext hb44 hV))
  have HAR : Hid (∀ V, Below W4.heap.size W4 V → AxB V B xr (.slice ra xr.map.length rc)) := Lib.hid fun V hV => HAX3.out.keep (bnext HB34.out (bnext hb44 hV))
  have HAA : Hid (∀ V, Below W4.heap.size W4 V → AxB V C xm (.slice aa n ac)) := Lib.hid fun V hV => HBA.out.keep hV
  have HQ4 : Hid (∀ V, Below W4.heap.size W4 V → V.cell? ⟨B + 1, 0, none⟩ = some (.int .i64 a2) ∧ V.cell? ⟨B + 1, 1, none⟩ = some (.int .i64 b2) ∧ V.cell? ⟨B + 1, 2, none⟩ = some (.int .i64 c2)) := Lib.hid fun V hV => by
    have h := ((bnext HB34.out (bnext hb44 hV)).block (B + 1) (Array.getElem?_eq_some_iff.1 HQ3.out).1).trans HQ3.out
    exact ⟨cell_of h rfl, cell_of h rfl, cell_of h rfl⟩
  have HB4 := Lib.hid (bnext HB3.out (bnext HB34.out hb44))
  clear hW4 hC hba hb44
  go_wp2_with fail
  refine (HMA.out _ HB4.out).mono ?_
  rintro e w5 ⟨vb, rfl, hob, hb5⟩
  obtain ⟨ba, bc, rfl⟩ := own_shape hob
  have HB45 := Lib.hid hb5
  have HOB := Lib.hid hob
  clear hob hb5
  go_upto_region 5 with fail
  obtain ⟨D, hD⟩ : ∃ D, w5.heap.size = D := ⟨_, rfl⟩
  obtain ⟨W5, hW5⟩ : ∃ W5, w5.alloc (.cells #[.string xm.name, .int .i64 xm.lo, .int .i64 xm.de, .int .i64 xm.hi, .slice ba n bc] 24) = W5 := ⟨_, rfl⟩
  have hbb := AxB.new w5 xm (.slice ba n bc)
  have hb55 : Below w5.heap.size w5 W5 := by rw [← hW5]; exact balloc (Below.refl _ _) _
  rw [hW5, hD] at hbb
  try rw [hW5]
  try rw [hD]
  have HBD := Lib.hid hbb
  have HO5 := Lib.hid (own_below HOB.out hb55)
  have HDS : Hid (W4.heap.size ≤ D) := Lib.hid (by rw [← hD]; exact HB45.out.size)
  have HDB : Hid ((Value.slice ba n bc).ownBlock ≠ some D) := Lib.hid fun e => by have := (HOB.out.lt _ e).2; omega
  have HB5 := Lib.hid (bnext HB45.out hb55)
  clear hW5 hD hbb hb55
  obtain ⟨q0, q1, q2⟩ := HQ4.out W5 HB5.out
  obtain ⟨s0, s1, s2, s3, s4⟩ := HBD.out.cells
  obtain ⟨z1, hz1⟩ : ∃ z, bits .and .i64 b2 65535 = z := ⟨_, rfl⟩
  have hz1b : 0 ≤ z1 ∧ z1 ≤ 65535 := by rw [← hz1, i64_and65535]; omega
  obtain ⟨z0, hz0⟩ : ∃ z, bits .and .i64 a2 65535 = z := ⟨_, rfl⟩
  have hz0b : 0 ≤ z0 ∧ z0 ≤ 65535 := by rw [← hz0, i64_and65535]; omega
  obtain ⟨hz10, hz11⟩ := hz1b
  obtain ⟨hz00, hz01⟩ := hz0b
  have hni : (1 : Int) ≤ (n : Int) := by omega
  have hnz : ¬ (n : Int) = 0 := by omega
  obtain ⟨k, hk⟩ : ∃ k : Nat, z1 % (n : Int) = (k : Int) := ⟨(z1 % (n : Int)).toNat, by rw [Int.toNat_of_nonneg (Int.emod_nonneg _ hnz)]⟩
  have hkn : k < n := by have := Int.emod_lt_of_pos z1 (by omega : (0 : Int) < n); omega
  obtain ⟨rr, hrr⟩ : ∃ rr, z0 % 9 = rr := ⟨_, rfl⟩
  have hrb : rr = 0 ∨ rr = 1 ∨ rr = 2 ∨ rr = 3 ∨ rr = 4 ∨ rr = 5 ∨ rr = 6 ∨ rr = 7 ∨ rr = 8 := by omega
  have HRB := Lib.hid hrb
  clear hrb
  go_upto_block 0 with fail
  try rw [hk]
  try rw [hrr]
  have hk0 : (0 : Int) ≤ (k : Int) := by omega
  have hki : (k : Int) < (n : Int) := by omega
  have f0 := HBD.out.frozen 0
  have f1 := HBD.out.frozen 1
  have f2 := HBD.out.frozen 2
  have f3 := HBD.out.frozen 3
  have f4 := HBD.out.frozen 4
  have HKEEP : Hid (∀ i u, (W5.setCell ⟨D, i, none⟩ u).ownsRow W4.heap.size 30 2 (.slice ba n bc) n (AX.prc xm.map)) := Lib.hid fun i u => own_of_grown HO5.out (set_kept W5 D i u) (fun x hx e => HDB.out (by rw [hx]; exact e.symm))
  have HBS : Hid (∀ i u, Below W4.heap.size W4 (W5.setCell ⟨D, i, none⟩ u)) := Lib.hid fun i u => bset HB5.out (p := ⟨D, i, none⟩) HDS.out u
  go_cut [] from 33 to 135 (fun wx => ∃ (xb : AX.Ax) (vb : Value), AxB wx D xb vb ∧ PrAt wx vb xb.map ∧ xb.map.length ≤ 12 ∧ xb.name.size ≤ 20 ∧ Below W4.heap.size W4 wx)
  case first =>
    obtain ⟨d3, hd3⟩ : ∃ d, c2.tmod 3 = d := ⟨_, rfl⟩
    obtain ⟨d300, hd300⟩ : ∃ d, c2.tmod 300 = d := ⟨_, rfl⟩
    obtain ⟨d70, hd70⟩ : ∃ d, c2.tmod 70 = d := ⟨_, rfl⟩
    obtain ⟨d2, hd2⟩ : ∃ d, c2.tmod 2 = d := ⟨_, rfl⟩
    have b3 : -2 ≤ d3 ∧ d3 ≤ 2 := by rw [← hd3]; exact tmod_bd c2 (n := 3) (by decide)
    have b300 : -299 ≤ d300 ∧ d300 ≤ 299 := by rw [← hd300]; exact tmod_bd c2 (n := 300) (by decide)
    have b70 : -69 ≤ d70 ∧ d70 ≤ 69 := by rw [← hd70]; exact tmod_bd c2 (n := 70) (by decide)
    have b2' : -1 ≤ d2 ∧ d2 ≤ 1 := by rw [← hd2]; exact tmod_bd c2 (n := 2) (by decide)
    obtain ⟨b31, b32⟩ := b3
    obtain ⟨b301, b302⟩ := b300
    obtain ⟨b71, b72⟩ := b70
    obtain ⟨b21, b22⟩ := b2'
    rcases HRB.out with rfl | rfl | rfl | rfl | rfl | rfl | rfl | rfl | rfl
    · have y0 := (HAR.out W5 HB5.out).cells.1
      go_wp2_with fail
      go_meet
      exact ⟨{ xm with name := xr.name }, .slice ba n bc, HBD.out.set0 _, pr_own' HN.out (HKEEP.out _ _), by show xm.map.length ≤ 12; rw [HN.out]; omega, HX20.out, HBS.out _ _⟩
    · go_wp2_with fail
      go_meet
      exact ⟨{ xm with lo := xm.lo + d3 }, .slice ba n bc, HBD.out.set1 _, pr_own' HN.out (HKEEP.out _ _), by show xm.map.length ≤ 12; rw [HN.out]; omega, by show xm.name.size ≤ 20; rw [HNM.out]; decide, HBS.out _ _⟩
    · go_wp2_with fail
      go_meet
      exact ⟨{ xm with de := xm.de + d300 }, .slice ba n bc, HBD.out.set2 _, pr_own' HN.out (HKEEP.out _ _), by show xm.map.length ≤ 12; rw [HN.out]; omega, by show xm.name.size ≤ 20; rw [HNM.out]; decide, HBS.out _ _⟩
    · go_wp2_with fail
      go_meet
      exact ⟨{ xm with hi := xm.hi + d3 }, .slice ba n bc, HBD.out.set3 _, pr_own' HN.out (HKEEP.out _ _), by show xm.map.length ≤ 12; rw [HN.out]; omega, by show xm.name.size ≤ 20; rw [HNM.out]; decide, HBS.out _ _⟩
    · have HO5' := HO5.out
      obtain ⟨gb, rfl, hgb⟩ : ∃ gb, ba = some ⟨gb, 0, none⟩ ∧ W4.heap.size ≤ gb := by
        rcases HO5'.2 with ⟨h1, h2⟩ | ⟨g, cap, cur, e, hb, _⟩
        · injection h1 with h1 h2
          omega
        · injection e with e1 e2 e3
          exact ⟨g, e1, hb⟩
      have hDg : D ≠ gb := fun e => HDB.out (by rw [e]; rfl)
      obtain ⟨p, hp⟩ : ∃ p, xm.map[k]? = some p := ⟨xm.map[k]'(by rw [HN.out]; exact hkn), List.getElem?_eq_getElem _⟩
      obtain ⟨g1, g2⟩ := AX.prc_get xm.map hp
      obtain ⟨z, hz⟩ : ∃ z, IntKind.i64.wrap (p.1 + d3) = z := ⟨_, rfl⟩
      have hu := HO5'.cellAt (k * 2) (by omega)
      rw [g1] at hu
      have HS45 : Hid (∀ V, Below W5.heap.size W5 V → (fun w' => w'.cell? ⟨D, 4, none⟩ = some (.slice (some ⟨gb, 0, none⟩) n bc) ∧ w'.cell? ⟨gb, k * 2, none⟩ = some (.int .i64 p.1) ∧ w'.cell? ⟨B + 1, 2, none⟩ = some (.int .i64 c2)) V) := Lib.hid fun V hV => ⟨(HBD.out.keep hV).cells.2.2.2.2, (hV.cell (p := ⟨gb, k * 2, none⟩) (World.block_lt_of_cell? _ _ hu)).trans hu, (HQ4.out V (bnext HB5.out hV)).2.2⟩
      have HOD := own_below HO5' (Below.drew (Below.refl W5.heap.size W5))
      have zf := HOD.frozenAt (k * 2)
      have zc := HOD.cellAt (k * 2) (by omega)
      rw [g1] at zc
      have hst := (HOD.stored (k * 2) (.int .i64 z)).1
      rw [AX.prc_set0 xm.map k p z hp] at hst
      have HST := Lib.hid hst
      clear hst
      go_upto_region 16 with fail
      refine wp_region_last #[{ dst := some 67, op := Op.fieldAddr 24 (Operand.tmp 9) 4, type := 0, pos := "law.go:68", after := #[], guard := none }, { dst := some 68, op := Op.load 22 (Operand.tmp 67), type := 22, pos := "law.go:68", after := #[{ on := 0, ground := Ground.data }], guard := none }, { dst := some 69, op := Op.move (Operand.tmp 10), type := 3, pos := "law.go:68", after := #[], guard := none }, { dst := some 70, op := Op.fieldAddr 24 (Operand.tmp 9) 4, type := 0, pos := "law.go:68", after := #[], guard := none }, { dst := some 71, op := Op.load 22 (Operand.tmp 70), type := 22, pos := "law.go:68", after := #[{ on := 3, ground := Ground.data }], guard := none }, { dst := some 72, op := Op.move (Operand.tmp 10), type := 3, pos := "law.go:68", after := #[], guard := none }, { dst := some 73, op := Op.indexAddr 22 (Operand.tmp 71) (Operand.tmp 72), type := 0, pos := "law.go:68", after := #[{ on := 4, ground := Ground.data }, { on := 5, ground := Ground.data }], guard := none }, { dst := some 74, op := Op.indexAddr 30 (Operand.tmp 73) (Operand.const (Value.int IntKind.i64 0)), type := 0, pos := "law.go:68", after := #[{ on := 6, ground := Ground.data }], guard := none }, { dst := some 75, op := Op.load 3 (Operand.tmp 74), type := 3, pos := "law.go:68", after := #[{ on := 7, ground := Ground.data }], guard := none }, { dst := some 76, op := Op.indexAddr 26 (Operand.tmp 5) (Operand.const (Value.int IntKind.i64 2)), type := 0, pos := "law.go:68", after := #[], guard := none }, { dst := some 77, op := Op.load 3 (Operand.tmp 76), type := 3, pos := "law.go:68", after := #[{ on := 9, ground := Ground.data }], guard := none }, { dst := some 78, op := Op.binOp BinOp.rem 3 (Operand.tmp 77) (Operand.const (Value.int IntKind.i64 3)) 3, type := 3, pos := "law.go:68", after := #[{ on := 10, ground := Ground.data }], guard := none }, { dst := some 79, op := Op.binOp BinOp.add 3 (Operand.tmp 75) (Operand.tmp 78) 3, type := 3, pos := "law.go:68", after := #[{ on := 8, ground := Ground.data }, { on := 11, ground := Ground.data }], guard := none }, { dst := some 80, op := Op.indexAddr 22 (Operand.tmp 68) (Operand.tmp 69), type := 0, pos := "law.go:68", after := #[{ on := 1, ground := Ground.data }, { on := 2, ground := Ground.data }], guard := none }, { dst := some 81, op := Op.indexAddr 30 (Operand.tmp 80) (Operand.const (Value.int IntKind.i64 0)), type := 0, pos := "law.go:68", after := #[{ on := 13, ground := Ground.data }, { on := 0, ground := Ground.phase }, { on := 1, ground := Ground.phase }, { on := 2, ground := Ground.phase }, { on := 3, ground := Ground.phase }, { on := 4, ground := Ground.phase }, { on := 5, ground := Ground.phase }, { on := 6, ground := Ground.phase }, { on := 7, ground := Ground.phase }, { on := 8, ground := Ground.phase }, { on := 9, ground := Ground.phase }, { on := 10, ground := Ground.phase }, { on := 11, ground := Ground.phase }, { on := 12, ground := Ground.phase }], guard := none }] { dst := none, op := Op.store 3 (Operand.tmp 81) (Operand.tmp 79), type := 0, pos := "law.go:68", after := #[{ on := 14, ground := Ground.data }, { on := 12, ground := Ground.data }, { on := 0, ground := Ground.phase }, { on := 1, ground := Ground.phase }, { on := 2, ground := Ground.phase }, { on := 3, ground := Ground.phase }, { on := 4, ground := Ground.phase }, { on := 5, ground := Ground.phase }, { on := 6, ground := Ground.phase }, { on := 7, ground := Ground.phase }, { on := 8, ground := Ground.phase }, { on := 9, ground := Ground.phase }, { on := 10, ground := Ground.phase }, { on := 11, ground := Ground.phase }, { on := 12, ground := Ground.phase }], guard := none } rfl (by kernel_rfl) (by kernel_rfl) (fun w' => w'.cell? ⟨D, 4, none⟩ = some (.slice (some ⟨gb, 0, none⟩) n bc) ∧ w'.cell? ⟨gb, k * 2, none⟩ = some (.int .i64 p.1) ∧ w'.cell? ⟨B + 1, 2, none⟩ = some (.int .i64 c2)) ?_ (fun hHeld => ?_)
      · exact HS45.out _ (Below.drew (Below.refl _ W5))
      refine wpAnyH_take (i := 0) (oi := { dst := some 67, op := Op.fieldAddr 24 (Operand.tmp 9) 4, type := 0, pos := "law.go:68", after := #[], guard := none }) (v := ?_) rfl (by kernel_rfl) (by kernel_rfl) (by kernel_rfl) (fun _ _ _ h => h) (Or.inl ⟨by rfl, ?_⟩) (by assumption) ?_
      rotate_left
      · ((intro w hSw; (try dsimp only at hSw); go_simp; (try rw [if_neg (by omega)])); try with_reducible rfl)
      (try simp only [Act.put, List.setIfInBounds_toArray, List.set_cons_zero, List.set_cons_succ])
      refine wpAnyH_take (i := 1) (oi := { dst := some 68, op := Op.load 22 (Operand.tmp 67), type := 22, pos := "law.go:68", after := #[{ on := 0, ground := Ground.data }], guard := none }) (v := ?_) rfl (by kernel_rfl) (by kernel_rfl) (by kernel_rfl) (fun _ _ _ h => h) (Or.inl ⟨by rfl, ?_⟩) (by assumption) ?_
      rotate_left
      · ((intro w hSw; (try dsimp only at hSw); go_simp; (try rw [if_neg (by omega)])); try with_reducible rfl)
      (try simp only [Act.put, List.setIfInBounds_toArray, List.set_cons_zero, List.set_cons_succ])
      refine wpAnyH_take (i := 2) (oi := { dst := some 69, op := Op.move (Operand.tmp 10), type := 3, pos := "law.go:68", after := #[], guard := none }) (v := ?_) rfl (by kernel_rfl) (by kernel_rfl) (by kernel_rfl) (fun _ _ _ h => h) (Or.inl ⟨by rfl, ?_⟩) (by assumption) ?_
      rotate_left
      · ((intro w hSw; (try dsimp only at hSw); go_simp; (try rw [if_neg (by omega)])); try with_reducible rfl)
      (try simp only [Act.put, List.setIfInBounds_toArray, List.set_cons_zero, List.set_cons_succ])
      refine wpAnyH_take (i := 3) (oi := { dst := some 70, op := Op.fieldAddr 24 (Operand.tmp 9) 4, type := 0, pos := "law.go:68", after := #[], guard := none }) (v := ?_) rfl (by kernel_rfl) (by kernel_rfl) (by kernel_rfl) (fun _ _ _ h => h) (Or.inl ⟨by rfl, ?_⟩) (by assumption) ?_
      rotate_left
      · ((intro w hSw; (try dsimp only at hSw); go_simp; (try rw [if_neg (by omega)])); try with_reducible rfl)
      (try simp only [Act.put, List.setIfInBounds_toArray, List.set_cons_zero, List.set_cons_succ])
      refine wpAnyH_take (i := 4) (oi := { dst := some 71, op := Op.load 22 (Operand.tmp 70), type := 22, pos := "law.go:68", after := #[{ on := 3, ground := Ground.data }], guard := none }) (v := ?_) rfl (by kernel_rfl) (by kernel_rfl) (by kernel_rfl) (fun _ _ _ h => h) (Or.inl ⟨by rfl, ?_⟩) (by assumption) ?_
      rotate_left
      · ((intro w hSw; (try dsimp only at hSw); go_simp; (try rw [if_neg (by omega)])); try with_reducible rfl)
      (try simp only [Act.put, List.setIfInBounds_toArray, List.set_cons_zero, List.set_cons_succ])
      refine wpAnyH_take (i := 5) (oi := { dst := some 72, op := Op.move (Operand.tmp 10), type := 3, pos := "law.go:68", after := #[], guard := none }) (v := ?_) rfl (by kernel_rfl) (by kernel_rfl) (by kernel_rfl) (fun _ _ _ h => h) (Or.inl ⟨by rfl, ?_⟩) (by assumption) ?_
      rotate_left
      · ((intro w hSw; (try dsimp only at hSw); go_simp; (try rw [if_neg (by omega)])); try with_reducible rfl)
      (try simp only [Act.put, List.setIfInBounds_toArray, List.set_cons_zero, List.set_cons_succ])
      refine wpAnyH_take (i := 6) (oi := { dst := some 73, op := Op.indexAddr 22 (Operand.tmp 71) (Operand.tmp 72), type := 0, pos := "law.go:68", after := #[{ on := 4, ground := Ground.data }, { on := 5, ground := Ground.data }], guard := none }) (v := ?_) rfl (by kernel_rfl) (by kernel_rfl) (by kernel_rfl) (fun _ _ _ h => h) (Or.inl ⟨by rfl, ?_⟩) (by assumption) ?_
      rotate_left
      · ((intro w hSw; (try dsimp only at hSw); go_simp; (try rw [if_neg (by omega)])); try with_reducible rfl)
      (try simp only [Act.put, List.setIfInBounds_toArray, List.set_cons_zero, List.set_cons_succ])
      refine wpAnyH_take (i := 7) (oi := { dst := some 74, op := Op.indexAddr 30 (Operand.tmp 73) (Operand.const (Value.int IntKind.i64 0)), type := 0, pos := "law.go:68", after := #[{ on := 6, ground := Ground.data }], guard := none }) (v := ?_) rfl (by kernel_rfl) (by kernel_rfl) (by kernel_rfl) (fun _ _ _ h => h) (Or.inl ⟨by rfl, ?_⟩) (by assumption) ?_
      rotate_left
      · ((intro w hSw; (try dsimp only at hSw); go_simp; (try rw [if_neg (by omega)])); try with_reducible rfl)
      (try simp only [Act.put, List.setIfInBounds_toArray, List.set_cons_zero, List.set_cons_succ])
      refine wpAnyH_take (i := 8) (oi := { dst := some 75, op := Op.load 3 (Operand.tmp 74), type := 3, pos := "law.go:68", after := #[{ on := 7, ground := Ground.data }], guard := none }) (v := ?_) rfl (by kernel_rfl) (by kernel_rfl) (by kernel_rfl) (fun _ _ _ h => h) (Or.inl ⟨by rfl, ?_⟩) (by assumption) ?_
      rotate_left
      · ((intro w hSw; (try dsimp only at hSw); go_simp; (try rw [if_neg (by omega)])); try with_reducible rfl)
      (try simp only [Act.put, List.setIfInBounds_toArray, List.set_cons_zero, List.set_cons_succ])
      refine wpAnyH_take (i := 9) (oi := { dst := some 76, op := Op.indexAddr 26 (Operand.tmp 5) (Operand.const (Value.int IntKind.i64 2)), type := 0, pos := "law.go:68", after := #[], guard := none }) (v := ?_) rfl (by kernel_rfl) (by kernel_rfl) (by kernel_rfl) (fun _ _ _ h => h) (Or.inl ⟨by rfl, ?_⟩) (by assumption) ?_
      rotate_left
      · ((intro w hSw; (try dsimp only at hSw); go_simp; (try rw [if_neg (by omega)])); try with_reducible rfl)
      (try simp only [Act.put, List.setIfInBounds_toArray, List.set_cons_zero, List.set_cons_succ])
      refine wpAnyH_take (i := 10) (oi := { dst := some 77, op := Op.load 3 (Operand.tmp 76), type := 3, pos := "law.go:68", after := #[{ on := 9, ground := Ground.data }], guard := none }) (v := ?_) rfl (by kernel_rfl) (by kernel_rfl) (by kernel_rfl) (fun _ _ _ h => h) (Or.inl ⟨by rfl, ?_⟩) (by assumption) ?_
      rotate_left
      · ((intro w hSw; (try dsimp only at hSw); go_simp; (try rw [if_neg (by omega)])); try with_reducible rfl)
      (try simp only [Act.put, List.setIfInBounds_toArray, List.set_cons_zero, List.set_cons_succ])
      refine wpAnyH_take (i := 11) (oi := { dst := some 78, op := Op.binOp BinOp.rem 3 (Operand.tmp 77) (Operand.const (Value.int IntKind.i64 3)) 3, type := 3, pos := "law.go:68", after := #[{ on := 10, ground := Ground.data }], guard := none }) (v := ?_) rfl (by kernel_rfl) (by kernel_rfl) (by kernel_rfl) (fun _ _ _ h => h) (Or.inl ⟨by rfl, ?_⟩) (by assumption) ?_
      rotate_left
      · ((intro w hSw; (try dsimp only at hSw); go_simp; (try rw [if_neg (by omega)])); try with_reducible rfl)
      (try simp only [Act.put, List.setIfInBounds_toArray, List.set_cons_zero, List.set_cons_succ])
      refine wpAnyH_take (i := 12) (oi := { dst := some 79, op := Op.binOp BinOp.add 3 (Operand.tmp 75) (Operand.tmp 78) 3, type := 3, pos := "law.go:68", after := #[{ on := 8, ground := Ground.data }, { on := 11, ground := Ground.data }], guard := none }) (v := ?_) rfl (by kernel_rfl) (by kernel_rfl) (by kernel_rfl) (fun _ _ _ h => h) (Or.inl ⟨by rfl, ?_⟩) (by assumption) ?_
      rotate_left
      · ((intro w hSw; (try dsimp only at hSw); go_simp; (try rw [if_neg (by omega)])); try with_reducible rfl)
      (try simp only [Act.put, List.setIfInBounds_toArray, List.set_cons_zero, List.set_cons_succ])
      refine wpAnyH_take (i := 13) (oi := { dst := some 80, op := Op.indexAddr 22 (Operand.tmp 68) (Operand.tmp 69), type := 0, pos := "law.go:68", after := #[{ on := 1, ground := Ground.data }, { on := 2, ground := Ground.data }], guard := none }) (v := ?_) rfl (by kernel_rfl) (by kernel_rfl) (by kernel_rfl) (fun _ _ _ h => h) (Or.inl ⟨by rfl, ?_⟩) (by assumption) ?_
      rotate_left
      · ((intro w hSw; (try dsimp only at hSw); go_simp; (try rw [if_neg (by omega)])); try with_reducible rfl)
      (try simp only [Act.put, List.setIfInBounds_toArray, List.set_cons_zero, List.set_cons_succ])
      refine wpAnyH_take (i := 14) (oi := { dst := some 81, op := Op.indexAddr 30 (Operand.tmp 80) (Operand.const (Value.int IntKind.i64 0)), type := 0, pos := "law.go:68", after := #[{ on := 13, ground := Ground.data }, { on := 0, ground := Ground.phase }, { on := 1, ground := Ground.phase }, { on := 2, ground := Ground.phase }, { on := 3, ground := Ground.phase }, { on := 4, ground := Ground.phase }, { on := 5, ground := Ground.phase }, { on := 6, ground := Ground.phase }, { on := 7, ground := Ground.phase }, { on := 8, ground := Ground.phase }, { on := 9, ground := Ground.phase }, { on := 10, ground := Ground.phase }, { on := 11, ground := Ground.phase }, { on := 12, ground := Ground.phase }], guard := none }) (v := ?_) rfl (by kernel_rfl) (by kernel_rfl) (by kernel_rfl) (fun _ _ _ h => h) (Or.inl ⟨by rfl, ?_⟩) (by assumption) ?_
      rotate_left
      · ((intro w hSw; (try dsimp only at hSw); go_simp; (try rw [if_neg (by omega)])); try with_reducible rfl)
      (try simp only [Act.put, List.setIfInBounds_toArray, List.set_cons_zero, List.set_cons_succ])
      refine wpAnyH_done (by kernel_rfl) ?_ _
      show Oper.wp _ _ _ _ _ _
      go_wp2_with fail
      go_meet
      refine ⟨{ xm with map := xm.map.set k (z, p.2) }, .slice (some ⟨gb, 0, none⟩) n bc, ?_, pr_own' (by rw [List.length_set, HN.out]) HST.out, by show (xm.map.set k (z, p.2)).length ≤ 12; rw [List.length_set, HN.out]; omega, by show xm.name.size ≤ 20; rw [HNM.out]; decide, ?_⟩
      · exact (Below.heap_setCell W5.drew ⟨gb, k * 2, none⟩ _ D hDg).trans HBD.out
      · exact bset (bnext HB5.out (Below.drew (Below.refl _ _))) (p := ⟨gb, k * 2, none⟩) hgb _
    · have HO5' := HO5.out
      obtain ⟨gb, rfl, hgb⟩ : ∃ gb, ba = some ⟨gb, 0, none⟩ ∧ W4.heap.size ≤ gb := by
        rcases HO5'.2 with ⟨h1, h2⟩ | ⟨g, cap, cur, e, hb, _⟩
        · injection h1 with h1 h2
          omega
        · injection e with e1 e2 e3
          exact ⟨g, e1, hb⟩
      have hDg : D ≠ gb := fun e => HDB.out (by rw [e]; rfl)
      obtain ⟨p, hp⟩ : ∃ p, xm.map[k]? = some p := ⟨xm.map[k]'(by rw [HN.out]; exact hkn), List.getElem?_eq_getElem _⟩
      obtain ⟨g1, g2⟩ := AX.prc_get xm.map hp
      obtain ⟨z, hz⟩ : ∃ z, IntKind.i64.wrap (p.2 + d70) = z := ⟨_, rfl⟩
      have hu := HO5'.cellAt (k * 2 + 1) (by omega)
      rw [g2] at hu
      have HS45 : Hid (∀ V, Below W5.heap.size W5 V → (fun w' => w'.cell? ⟨D, 4, none⟩ = some (.slice (some ⟨gb, 0, none⟩) n bc) ∧ w'.cell? ⟨gb, k * 2 + 1, none⟩ = some (.int .i64 p.2) ∧ w'.cell? ⟨B + 1, 2, none⟩ = some (.int .i64 c2)) V) := Lib.hid fun V hV => ⟨(HBD.out.keep hV).cells.2.2.2.2, (hV.cell (p := ⟨gb, k * 2 + 1, none⟩) (World.block_lt_of_cell? _ _ hu)).trans hu, (HQ4.out V (bnext HB5.out hV)).2.2⟩
      have HOD := own_below HO5' (Below.drew (Below.refl W5.heap.size W5))
      have zf := HOD.frozenAt (k * 2 + 1)
      have zc := HOD.cellAt (k * 2 + 1) (by omega)
      rw [g2] at zc
      have hst := (HOD.stored (k * 2 + 1) (.int .i64 z)).1
      rw [AX.prc_set1 xm.map k p z hp] at hst
      have HST := Lib.hid hst
      clear hst
      go_upto_region 18 with fail
      refine wp_region_last #[{ dst := some 84, op := Op.fieldAddr 24 (Operand.tmp 9) 4, type := 0, pos := "law.go:70", after := #[], guard := none }, { dst := some 85, op := Op.load 22 (Operand.tmp 84), type := 22, pos := "law.go:70", after := #[{ on := 0, ground := Ground.data }], guard := none }, { dst := some 86, op := Op.move (Operand.tmp 10), type := 3, pos := "law.go:70", after := #[], guard := none }, { dst := some 87, op := Op.fieldAddr 24 (Operand.tmp 9) 4, type := 0, pos := "law.go:70", after := #[], guard := none }, { dst := some 88, op := Op.load 22 (Operand.tmp 87), type := 22, pos := "law.go:70", after := #[{ on := 3, ground := Ground.data }], guard := none }, { dst := some 89, op := Op.move (Operand.tmp 10), type := 3, pos := "law.go:70", after := #[], guard := none }, { dst := some 90, op := Op.indexAddr 22 (Operand.tmp 88) (Operand.tmp 89), type := 0, pos := "law.go:70", after := #[{ on := 4, ground := Ground.data }, { on := 5, ground := Ground.data }], guard := none }, { dst := some 91, op := Op.indexAddr 30 (Operand.tmp 90) (Operand.const (Value.int IntKind.i64 1)), type := 0, pos := "law.go:70", after := #[{ on := 6, ground := Ground.data }], guard := none }, { dst := some 92, op := Op.load 3 (Operand.tmp 91), type := 3, pos := "law.go:70", after := #[{ on := 7, ground := Ground.data }], guard := none }, { dst := some 93, op := Op.indexAddr 26 (Operand.tmp 5) (Operand.const (Value.int IntKind.i64 2)), type := 0, pos := "law.go:70", after := #[], guard := none }, { dst := some 94, op := Op.load 3 (Operand.tmp 93), type := 3, pos := "law.go:70", after := #[{ on := 9, ground := Ground.data }], guard := none }, { dst := some 95, op := Op.binOp BinOp.rem 3 (Operand.tmp 94) (Operand.const (Value.int IntKind.i64 70)) 3, type := 3, pos := "law.go:70", after := #[{ on := 10, ground := Ground.data }], guard := none }, { dst := some 96, op := Op.binOp BinOp.add 3 (Operand.tmp 92) (Operand.tmp 95) 3, type := 3, pos := "law.go:70", after := #[{ on := 8, ground := Ground.data }, { on := 11, ground := Ground.data }], guard := none }, { dst := some 97, op := Op.indexAddr 22 (Operand.tmp 85) (Operand.tmp 86), type := 0, pos := "law.go:70", after := #[{ on := 1, ground := Ground.data }, { on := 2, ground := Ground.data }], guard := none }, { dst := some 98, op := Op.indexAddr 30 (Operand.tmp 97) (Operand.const (Value.int IntKind.i64 1)), type := 0, pos := "law.go:70", after := #[{ on := 13, ground := Ground.data }, { on := 0, ground := Ground.phase }, { on := 1, ground := Ground.phase }, { on := 2, ground := Ground.phase }, { on := 3, ground := Ground.phase }, { on := 4, ground := Ground.phase }, { on := 5, ground := Ground.phase }, { on := 6, ground := Ground.phase }, { on := 7, ground := Ground.phase }, { on := 8, ground := Ground.phase }, { on := 9, ground := Ground.phase }, { on := 10, ground := Ground.phase }, { on := 11, ground := Ground.phase }, { on := 12, ground := Ground.phase }], guard := none }] { dst := none, op := Op.store 3 (Operand.tmp 98) (Operand.tmp 96), type := 0, pos := "law.go:70", after := #[{ on := 14, ground := Ground.data }, { on := 12, ground := Ground.data }, { on := 0, ground := Ground.phase }, { on := 1, ground := Ground.phase }, { on := 2, ground := Ground.phase }, { on := 3, ground := Ground.phase }, { on := 4, ground := Ground.phase }, { on := 5, ground := Ground.phase }, { on := 6, ground := Ground.phase }, { on := 7, ground := Ground.phase }, { on := 8, ground := Ground.phase }, { on := 9, ground := Ground.phase }, { on := 10, ground := Ground.phase }, { on := 11, ground := Ground.phase }, { on := 12, ground := Ground.phase }], guard := none } rfl (by kernel_rfl) (by kernel_rfl) (fun w' => w'.cell? ⟨D, 4, none⟩ = some (.slice (some ⟨gb, 0, none⟩) n bc) ∧ w'.cell? ⟨gb, k * 2 + 1, none⟩ = some (.int .i64 p.2) ∧ w'.cell? ⟨B + 1, 2, none⟩ = some (.int .i64 c2)) ?_ (fun hHeld => ?_)
      · exact HS45.out _ (Below.drew (Below.refl _ W5))
      refine wpAnyH_take (i := 0) (oi := { dst := some 84, op := Op.fieldAddr 24 (Operand.tmp 9) 4, type := 0, pos := "law.go:70", after := #[], guard := none }) (v := ?_) rfl (by kernel_rfl) (by kernel_rfl) (by kernel_rfl) (fun _ _ _ h => h) (Or.inl ⟨by rfl, ?_⟩) (by assumption) ?_
      rotate_left
      · ((intro w hSw; (try dsimp only at hSw); go_simp; (try rw [if_neg (by omega)])); try with_reducible rfl)
      (try simp only [Act.put, List.setIfInBounds_toArray, List.set_cons_zero, List.set_cons_succ])
      refine wpAnyH_take (i := 1) (oi := { dst := some 85, op := Op.load 22 (Operand.tmp 84), type := 22, pos := "law.go:70", after := #[{ on := 0, ground := Ground.data }], guard := none }) (v := ?_) rfl (by kernel_rfl) (by kernel_rfl) (by kernel_rfl) (fun _ _ _ h => h) (Or.inl ⟨by rfl, ?_⟩) (by assumption) ?_
      rotate_left
      · ((intro w hSw; (try dsimp only at hSw); go_simp; (try rw [if_neg (by omega)])); try with_reducible rfl)
      (try simp only [Act.put, List.setIfInBounds_toArray, List.set_cons_zero, List.set_cons_succ])
      refine wpAnyH_take (i := 2) (oi := { dst := some 86, op := Op.move (Operand.tmp 10), type := 3, pos := "law.go:70", after := #[], guard := none }) (v := ?_) rfl (by kernel_rfl) (by kernel_rfl) (by kernel_rfl) (fun _ _ _ h => h) (Or.inl ⟨by rfl, ?_⟩) (by assumption) ?_
      rotate_left
      · ((intro w hSw; (try dsimp only at hSw); go_simp; (try rw [if_neg (by omega)])); try with_reducible rfl)
      (try simp only [Act.put, List.setIfInBounds_toArray, List.set_cons_zero, List.set_cons_succ])
      refine wpAnyH_take (i := 3) (oi := { dst := some 87, op := Op.fieldAddr 24 (Operand.tmp 9) 4, type := 0, pos := "law.go:70", after := #[], guard := none }) (v := ?_) rfl (by kernel_rfl) (by kernel_rfl) (by kernel_rfl) (fun _ _ _ h => h) (Or.inl ⟨by rfl, ?_⟩) (by assumption) ?_
      rotate_left
      · ((intro w hSw; (try dsimp only at hSw); go_simp; (try rw [if_neg (by omega)])); try with_reducible rfl)
      (try simp only [Act.put, List.setIfInBounds_toArray, List.set_cons_zero, List.set_cons_succ])
      refine wpAnyH_take (i := 4) (oi := { dst := some 88, op := Op.load 22 (Operand.tmp 87), type := 22, pos := "law.go:70", after := #[{ on := 3, ground := Ground.data }], guard := none }) (v := ?_) rfl (by kernel_rfl) (by kernel_rfl) (by kernel_rfl) (fun _ _ _ h => h) (Or.inl ⟨by rfl, ?_⟩) (by assumption) ?_
      rotate_left
      · ((intro w hSw; (try dsimp only at hSw); go_simp; (try rw [if_neg (by omega)])); try with_reducible rfl)
      (try simp only [Act.put, List.setIfInBounds_toArray, List.set_cons_zero, List.set_cons_succ])
      refine wpAnyH_take (i := 5) (oi := { dst := some 89, op := Op.move (Operand.tmp 10), type := 3, pos := "law.go:70", after := #[], guard := none }) (v := ?_) rfl (by kernel_rfl) (by kernel_rfl) (by kernel_rfl) (fun _ _ _ h => h) (Or.inl ⟨by rfl, ?_⟩) (by assumption) ?_
      rotate_left
      · ((intro w hSw; (try dsimp only at hSw); go_simp; (try rw [if_neg (by omega)])); try with_reducible rfl)
      (try simp only [Act.put, List.setIfInBounds_toArray, List.set_cons_zero, List.set_cons_succ])
      refine wpAnyH_take (i := 6) (oi := { dst := some 90, op := Op.indexAddr 22 (Operand.tmp 88) (Operand.tmp 89), type := 0, pos := "law.go:70", after := #[{ on := 4, ground := Ground.data }, { on := 5, ground := Ground.data }], guard := none }) (v := ?_) rfl (by kernel_rfl) (by kernel_rfl) (by kernel_rfl) (fun _ _ _ h => h) (Or.inl ⟨by rfl, ?_⟩) (by assumption) ?_
      rotate_left
      · ((intro w hSw; (try dsimp only at hSw); go_simp; (try rw [if_neg (by omega)])); try with_reducible rfl)
      (try simp only [Act.put, List.setIfInBounds_toArray, List.set_cons_zero, List.set_cons_succ])
      refine wpAnyH_take (i := 7) (oi := { dst := some 91, op := Op.indexAddr 30 (Operand.tmp 90) (Operand.const (Value.int IntKind.i64 1)), type := 0, pos := "law.go:70", after := #[{ on := 6, ground := Ground.data }], guard := none }) (v := ?_) rfl (by kernel_rfl) (by kernel_rfl) (by kernel_rfl) (fun _ _ _ h => h) (Or.inl ⟨by rfl, ?_⟩) (by assumption) ?_
      rotate_left
      · ((intro w hSw; (try dsimp only at hSw); go_simp; (try rw [if_neg (by omega)])); try with_reducible rfl)
      (try simp only [Act.put, List.setIfInBounds_toArray, List.set_cons_zero, List.set_cons_succ])
      refine wpAnyH_take (i := 8) (oi := { dst := some 92, op := Op.load 3 (Operand.tmp 91), type := 3, pos := "law.go:70", after := #[{ on := 7, ground := Ground.data }], guard := none }) (v := ?_) rfl (by kernel_rfl) (by kernel_rfl) (by kernel_rfl) (fun _ _ _ h => h) (Or.inl ⟨by rfl, ?_⟩) (by assumption) ?_
      rotate_left
      · ((intro w hSw; (try dsimp only at hSw); go_simp; (try rw [if_neg (by omega)])); try with_reducible rfl)
      (try simp only [Act.put, List.setIfInBounds_toArray, List.set_cons_zero, List.set_cons_succ])
      refine wpAnyH_take (i := 9) (oi := { dst := some 93, op := Op.indexAddr 26 (Operand.tmp 5) (Operand.const (Value.int IntKind.i64 2)), type := 0, pos := "law.go:70", after := #[], guard := none }) (v := ?_) rfl (by kernel_rfl) (by kernel_rfl) (by kernel_rfl) (fun _ _ _ h => h) (Or.inl ⟨by rfl, ?_⟩) (by assumption) ?_
      rotate_left
      · ((intro w hSw; (try dsimp only at hSw); go_simp; (try rw [if_neg (by omega)])); try with_reducible rfl)
      (try simp only [Act.put, List.setIfInBounds_toArray, List.set_cons_zero, List.set_cons_succ])
      refine wpAnyH_take (i := 10) (oi := { dst := some 94, op := Op.load 3 (Operand.tmp 93), type := 3, pos := "law.go:70", after := #[{ on := 9, ground := Ground.data }], guard := none }) (v := ?_) rfl (by kernel_rfl) (by kernel_rfl) (by kernel_rfl) (fun _ _ _ h => h) (Or.inl ⟨by rfl, ?_⟩) (by assumption) ?_
      rotate_left
      · ((intro w hSw; (try dsimp only at hSw); go_simp; (try rw [if_neg (by omega)])); try with_reducible rfl)
      (try simp only [Act.put, List.setIfInBounds_toArray, List.set_cons_zero, List.set_cons_succ])
      refine wpAnyH_take (i := 11) (oi := { dst := some 95, op := Op.binOp BinOp.rem 3 (Operand.tmp 94) (Operand.const (Value.int IntKind.i64 70)) 3, type := 3, pos := "law.go:70", after := #[{ on := 10, ground := Ground.data }], guard := none }) (v := ?_) rfl (by kernel_rfl) (by kernel_rfl) (by kernel_rfl) (fun _ _ _ h => h) (Or.inl ⟨by rfl, ?_⟩) (by assumption) ?_
      rotate_left
      · ((intro w hSw; (try dsimp only at hSw); go_simp; (try rw [if_neg (by omega)])); try with_reducible rfl)
      (try simp only [Act.put, List.setIfInBounds_toArray, List.set_cons_zero, List.set_cons_succ])
      refine wpAnyH_take (i := 12) (oi := { dst := some 96, op := Op.binOp BinOp.add 3 (Operand.tmp 92) (Operand.tmp 95) 3, type := 3, pos := "law.go:70", after := #[{ on := 8, ground := Ground.data }, { on := 11, ground := Ground.data }], guard := none }) (v := ?_) rfl (by kernel_rfl) (by kernel_rfl) (by kernel_rfl) (fun _ _ _ h => h) (Or.inl ⟨by rfl, ?_⟩) (by assumption) ?_
      rotate_left
      · ((intro w hSw; (try dsimp only at hSw); go_simp; (try rw [if_neg (by omega)])); try with_reducible rfl)
      (try simp only [Act.put, List.setIfInBounds_toArray, List.set_cons_zero, List.set_cons_succ])
      refine wpAnyH_take (i := 13) (oi := { dst := some 97, op := Op.indexAddr 22 (Operand.tmp 85) (Operand.tmp 86), type := 0, pos := "law.go:70", after := #[{ on := 1, ground := Ground.data }, { on := 2, ground := Ground.data }], guard := none }) (v := ?_) rfl (by kernel_rfl) (by kernel_rfl) (by kernel_rfl) (fun _ _ _ h => h) (Or.inl ⟨by rfl, ?_⟩) (by assumption) ?_
      rotate_left
      · ((intro w hSw; (try dsimp only at hSw); go_simp; (try rw [if_neg (by omega)])); try with_reducible rfl)
      (try simp only [Act.put, List.setIfInBounds_toArray, List.set_cons_zero, List.set_cons_succ])
      refine wpAnyH_take (i := 14) (oi := { dst := some 98, op := Op.indexAddr 30 (Operand.tmp 97) (Operand.const (Value.int IntKind.i64 1)), type := 0, pos := "law.go:70", after := #[{ on := 13, ground := Ground.data }, { on := 0, ground := Ground.phase }, { on := 1, ground := Ground.phase }, { on := 2, ground := Ground.phase }, { on := 3, ground := Ground.phase }, { on := 4, ground := Ground.phase }, { on := 5, ground := Ground.phase }, { on := 6, ground := Ground.phase }, { on := 7, ground := Ground.phase }, { on := 8, ground := Ground.phase }, { on := 9, ground := Ground.phase }, { on := 10, ground := Ground.phase }, { on := 11, ground := Ground.phase }, { on := 12, ground := Ground.phase }], guard := none }) (v := ?_) rfl (by kernel_rfl) (by kernel_rfl) (by kernel_rfl) (fun _ _ _ h => h) (Or.inl ⟨by rfl, ?_⟩) (by assumption) ?_
      rotate_left
      · ((intro w hSw; (try dsimp only at hSw); go_simp; (try rw [if_neg (by omega)])); try with_reducible rfl)
      (try simp only [Act.put, List.setIfInBounds_toArray, List.set_cons_zero, List.set_cons_succ])
      refine wpAnyH_done (by kernel_rfl) ?_ _
      show Oper.wp _ _ _ _ _ _
      go_wp2_with fail
      go_meet
      refine ⟨{ xm with map := xm.map.set k (p.1, z) }, .slice (some ⟨gb, 0, none⟩) n bc, ?_, pr_own' (by rw [List.length_set, HN.out]) HST.out, by show (xm.map.set k (p.1, z)).length ≤ 12; rw [List.length_set, HN.out]; omega, by show xm.name.size ≤ 20; rw [HNM.out]; decide, ?_⟩
      · exact (Below.heap_setCell W5.drew ⟨gb, k * 2 + 1, none⟩ _ D hDg).trans HBD.out
      · exact bset (bnext HB5.out (Below.drew (Below.refl _ _))) (p := ⟨gb, k * 2 + 1, none⟩) hgb _
    · have hkb : (k : Int) ≤ (bc : Int) := by have := own_cap HO5.out; omega
      go_wp2_with fail
      go_meet
      exact ⟨{ xm with map := xm.map.take k }, .slice ba k bc, HBD.out.set4 _ _, pr_take (pr_own' HN.out (HKEEP.out _ _)) (by rw [HN.out]; omega), by show (xm.map.take k).length ≤ 12; rw [List.length_take, HN.out]; omega, by show xm.name.size ≤ 20; rw [HNM.out]; decide, HBS.out _ _⟩
    · have HOW := Lib.hid HO5.out
      have HBQ := Lib.hid HB5.out
      have HAQ := Lib.hid HBD.out
      go_upto_region 23 with (at_builtin; refine wpList_append_own_at _ rfl _ _ 22 rfl W4.heap.size 30 ip (.agg #[.int .i64 0, .int .i64 0]) 2 16 Try.underlying22 hip hq0 hq1 hq2 rfl (by decide) _ _ _ rfl (HOW.out.alloc _) ⟨W5.heap.size, 0, none⟩ 1 1 [.int .i64 (xm.hi + 1), .int .i64 64] rfl rfl (World.news_of_block (cs := #[.int .i64 (xm.hi + 1), .int .i64 64]) (t := 30) (fr := (0, 0)) (heap_alloc_new W5 _)) (by simp [Value.oneCell']) (by unfold maxLen; omega) (by omega) (by have := HBQ.out.size; simp; omega) ?_; intro v' w6 hown hgrow _ hat; obtain ⟨gg, cap', rfl⟩ := ownsRow_succ hown; have hb6 := app_keep HAQ.out HDB.out hgrow; obtain ⟨u0, u1, u2, u3, u4⟩ := hb6.cells; have e1 := hb6.frozen 4; have hb7 : Below W4.heap.size W4 w6 := ((balloc HBQ.out _).grown hgrow (balloc HBQ.out _).size (fun j ej => (HO5.out.lt j ej).1)); have hnd := app_ne HAQ.out HDB.out hat; clear hgrow hat)
      have hown2 : w6.ownsRow W4.heap.size 30 2 (.slice (some ⟨gg, 0, none⟩) (n + 1) cap') (n + 1) (AX.prc (xm.map ++ [(xm.hi + 1, 64)])) := by rw [AX.prc_app]; exact hown
      have hown3 := own_of_grown hown2 (set_kept w6 D 4 (.slice (some ⟨gg, 0, none⟩) (n + 1) cap')) (fun x hx e => hnd (by rw [hx]; exact e.symm))
      have hx7 := hb6.set4 (xm.map ++ [(xm.hi + 1, 64)]) (.slice (some ⟨gg, 0, none⟩) (n + 1) cap')
      have hbb7 := bset hb7 (p := ⟨D, 4, none⟩) HDS.out (.slice (some ⟨gg, 0, none⟩) (n + 1) cap')
      obtain ⟨w7, hw7⟩ : ∃ w7, w6.setCell ⟨D, 4, none⟩ (.slice (some ⟨gg, 0, none⟩) (n + 1) cap') = w7 := ⟨_, rfl⟩
      rw [hw7] at hx7 hown3 hbb7
      try rw [hw7]
      obtain ⟨-, -, -, u3', -⟩ := hx7.cells
      have e3 := hx7.frozen 3
      clear hw7 u0 u1 u2 u3 u4 e1 hown
      go_wp2_with fail
      go_meet
      refine ⟨{ xm with hi := xm.hi + 1, map := xm.map ++ [(xm.hi + 1, 64)] }, .slice (some ⟨gg, 0, none⟩) (n + 1) cap', hx7.set3 _, pr_own' (by rw [List.length_append, HN.out]; rfl) (own_of_grown hown3 (set_kept w7 D 3 _) (fun x hx e => hnd (by rw [hx]; exact e.symm))), by show (xm.map ++ [(xm.hi + 1, 64)]).length ≤ 12; rw [List.length_append, HN.out]; show n + 1 ≤ 12; omega, by show xm.name.size ≤ 20; rw [HNM.out]; decide, ?_⟩
      exact bset hbb7 (p := ⟨D, 3, none⟩) HDS.out _
    · go_upto_region 26 with fail
      obtain ⟨wq, hwq⟩ : ∃ wq, W5.setCell ⟨D, 3, none⟩ (.int .i64 (10000 + d2)) = wq := ⟨_, rfl⟩
      have HAQ : Hid (AxB wq D { xm with hi := 10000 + d2 } (.slice ba n bc)) := Lib.hid (by rw [← hwq]; exact HBD.out.set3 _)
      have HOW : Hid (wq.ownsRow W4.heap.size 30 2 (.slice ba n bc) n (AX.prc xm.map)) := Lib.hid (by rw [← hwq]; exact HKEEP.out _ _)
      have HBQ : Hid (Below W4.heap.size W4 wq) := Lib.hid (by rw [← hwq]; exact HBS.out _ _)
      try rw [hwq]
      obtain ⟨t0, t1, t2, t3, t4⟩ := HAQ.out.cells
      clear hwq s0 s1 s2 s3 s4 q0 q1 q2
      go_wp2_with (at_builtin; refine wpList_append_own_at _ rfl _ _ 22 rfl W4.heap.size 30 ip (.agg #[.int .i64 0, .int .i64 0]) 2 16 Try.underlying22 hip hq0 hq1 hq2 rfl (by decide) _ _ _ rfl (HOW.out.alloc _) ⟨wq.heap.size, 0, none⟩ 1 1 [.int .i64 (10000 + d2), .int .i64 64] rfl rfl (World.news_of_block (cs := #[.int .i64 (10000 + d2), .int .i64 64]) (t := 30) (fr := (0, 0)) (heap_alloc_new wq _)) (by simp [Value.oneCell']) (by unfold maxLen; omega) (by omega) (by have := HBQ.out.size; simp; omega) ?_; intro v' w6 hown hgrow _ hat; obtain ⟨gg, cap', rfl⟩ := ownsRow_succ hown; have hb6 := app_keep HAQ.out HDB.out hgrow; obtain ⟨u0, u1, u2, u3, u4⟩ := hb6.cells; have e1 := hb6.frozen 4; have hb7 : Below W4.heap.size W4 w6 := ((balloc HBQ.out _).grown hgrow (balloc HBQ.out _).size (fun j ej => (HO5.out.lt j ej).1)); have hnd := app_ne HAQ.out HDB.out hat; clear hgrow hat)
      have hown2 : w6.ownsRow W4.heap.size 30 2 (.slice (some ⟨gg, 0, none⟩) (n + 1) cap') (n + 1) (AX.prc (xm.map ++ [(10000 + d2, 64)])) := by rw [AX.prc_app]; exact hown
      go_meet
      refine ⟨{ xm with hi := 10000 + d2, map := xm.map ++ [(10000 + d2, 64)] }, .slice (some ⟨gg, 0, none⟩) (n + 1) cap', hb6.set4 _ _, pr_own' (by rw [List.length_append, HN.out]; rfl) (own_of_grown hown2 (set_kept w6 D 4 _) (fun x hx e => hnd (by rw [hx]; exact e.symm))), by show (xm.map ++ [(10000 + d2, 64)]).length ≤ 12; rw [List.length_append, HN.out]; show n + 1 ≤ 12; omega, by show xm.name.size ≤ 20; rw [HNM.out]; decide, ?_⟩
      exact bset hb7 (p := ⟨D, 4, none⟩) HDS.out _
  case rest =>
    obtain ⟨xb, vb, hbx, hpb, hlb, hsb, hbe⟩ := hcut
    obtain ⟨we, hwe⟩ : ∃ we, we = wc := ⟨_, rfl⟩
    subst hwe
    obtain ⟨i0, i1, i2, i3, i4⟩ := (HAR.out we hbe).cells
    obtain ⟨j0, j1, j2, j3, j4⟩ := (HAA.out we hbe).cells
    obtain ⟨l0, l1, l2, l3, l4⟩ := hbx.cells
    have HBE := Lib.hid (bnext HB4.out hbe)
    have HBE4 := Lib.hid hbe
    have HPB := Lib.hid hpb
    have HLB := Lib.hid (⟨hlb, hsb⟩ : _ ∧ _)
    have HX8 := Lib.hid hx8
    clear hbx hpb hlb hsb hbe s0 s1 s2 s3 s4 q0 q1 q2 f0 f1 f2 f3 f4 hx8 hx20
    have HQE : Hid (∀ V, Below we.heap.size we V → V.cell? ⟨B + 1, 2, none⟩ = some (.int .i64 c2)) := Lib.hid fun V hV => (HQ4.out V (bnext HBE4.out hV)).2.2
    have hqe := HQE.out we (Below.refl _ _)
    go_upto_region 28 with fail
    obtain ⟨G, hG⟩ : ∃ G, we.heap.size = G := ⟨_, rfl⟩
    obtain ⟨W6, hW6⟩ : ∃ W6, we.alloc (.cells #[.string xr.name, .int .i64 xr.lo, .int .i64 xr.de, .int .i64 xr.hi, .slice ra xr.map.length rc, .string xm.name, .int .i64 xm.lo, .int .i64 xm.de, .int .i64 xm.hi, .slice aa n ac, .string xb.name, .int .i64 xb.lo, .int .i64 xb.de, .int .i64 xb.hi, vb] 24) = W6 := ⟨_, rfl⟩
    have h6 := heap_alloc_new we (.cells #[.string xr.name, .int .i64 xr.lo, .int .i64 xr.de, .int .i64 xr.hi, .slice ra xr.map.length rc, .string xm.name, .int .i64 xm.lo, .int .i64 xm.de, .int .i64 xm.hi, .slice aa n ac, .string xb.name, .int .i64 xb.lo, .int .i64 xb.de, .int .i64 xb.hi, vb] 24)
    have hb6 : Below we.heap.size we W6 := by rw [← hW6]; exact balloc (Below.refl _ _) _
    rw [hW6, hG] at h6
    try rw [hW6]
    try rw [hG]
    have HEL : Hid (∀ V, Below W6.heap.size W6 V → ∀ j, j < 3 → ∃ (x : AX.Ax) (v : Value), (V.cell? ⟨G, j * 5, none⟩ = some (.string x.name) ∧ V.cell? ⟨G, j * 5 + 1, none⟩ = some (.int .i64 x.lo) ∧ V.cell? ⟨G, j * 5 + 2, none⟩ = some (.int .i64 x.de) ∧ V.cell? ⟨G, j * 5 + 3, none⟩ = some (.int .i64 x.hi) ∧ V.cell? ⟨G, j * 5 + 4, none⟩ = some v) ∧ PrAt V v x.map ∧ x.map.length ≤ 12 ∧ x.name.size ≤ 20) := Lib.hid fun V hV j hj => by
      have h := (hV.block G (Array.getElem?_eq_some_iff.1 h6).1).trans h6
      have hq := bnext hb6 hV
      match j, hj with
      | 0, _ => exact ⟨xr, _, ⟨cell_of h (i := 0) rfl, cell_of h (i := 1) rfl, cell_of h (i := 2) rfl, cell_of h (i := 3) rfl, cell_of h (i := 4) rfl⟩, HRR.out V (bnext HBE4.out hq), by have := HX8.out; omega, HX20.out⟩
      | 1, _ => exact ⟨xm, _, ⟨cell_of h (i := 5) rfl, cell_of h (i := 6) rfl, cell_of h (i := 7) rfl, cell_of h (i := 8) rfl, cell_of h (i := 9) rfl⟩, HRA.out V (bnext HBE4.out hq), by rw [HN.out]; omega, by rw [HNM.out]; decide⟩
      | 2, _ => exact ⟨xb, _, ⟨cell_of h (i := 10) rfl, cell_of h (i := 11) rfl, cell_of h (i := 12) rfl, cell_of h (i := 13) rfl, cell_of h (i := 14) rfl⟩, HPB.out.keep hq, HLB.out.1, HLB.out.2⟩
    have HB6 := Lib.hid hb6
    clear hW6 hG h6 hb6 i0 i1 i2 i3 i4 j0 j1 j2 j3 j4 l0 l1 l2 l3 l4 hqe
    go_wp2_with fail
    go_loopw [141] (fun v141 wr => ∃ j : Nat, v141 = .int .i64 (j : Int) ∧ j ≤ 3 ∧ Below W6.heap.size W6 wr) (fun v _ => 3 - (intOf v).toNat)
    case atStart => exact ⟨0, rfl, by decide, Below.refl _ _⟩
    case round =>
      obtain ⟨j, rfl, hj, hb⟩ := hrel
      obtain ⟨wq, hwq⟩ : ∃ wq, wq = wr := ⟨_, rfl⟩
      subst hwq
      by_cases hj3 : j < 3
      · have hji : (j : Int) < 3 := by omega
        have hj0 : (0 : Int) ≤ (j : Int) := by omega
        obtain ⟨x, v, ⟨c0, c1, c2', c3, c4⟩, hpr, hl12, hs20⟩ := HEL.out wq hb j hj3
        have HBQ := Lib.hid hb
        have hpr' := hpr
        obtain ⟨pva, pvc, rfl, -⟩ := hpr'
        have HPR := Lib.hid hpr
        have HLS := Lib.hid (⟨hl12, hs20⟩ : _ ∧ _)
        clear hpr hl12 hs20 hb
        go_upto_region 30 with fail
        obtain ⟨X, hX⟩ : ∃ X, wq.heap.size = X := ⟨_, rfl⟩
        obtain ⟨W7, hW7⟩ : ∃ W7, wq.alloc (.cells #[.string x.name, .int .i64 x.lo, .int .i64 x.de, .int .i64 x.hi, .slice pva x.map.length pvc] 24) = W7 := ⟨_, rfl⟩
        have hbx := AxB.new wq x (.slice pva x.map.length pvc)
        have hb7 : Below wq.heap.size wq W7 := by rw [← hW7]; exact balloc (Below.refl _ _) _
        rw [hW7, hX] at hbx
        try rw [hW7]
        try rw [hX]
        have HBX := Lib.hid hbx
        have HB7 := Lib.hid hb7
        have HQ7 := HQE.out W7 (bnext HB6.out (bnext HBQ.out hb7))
        obtain ⟨y0, y1, y2, y3, y4⟩ := hbx.cells
        clear hW7 hX hbx hb7 c0 c1 c2' c3 c4
        obtain ⟨m1, hm1⟩ : ∃ m, wrap64 (x.lo - 1) = m := ⟨_, rfl⟩
        obtain ⟨m2, hm2⟩ : ∃ m, wrap64 (x.de + c2.tmod 500) = m := ⟨_, rfl⟩
        go_upto_region 31 with fail
        try simp only [hm1, hm2]
        obtain ⟨Y, hY⟩ : ∃ Y, W7.heap.size = Y := ⟨_, rfl⟩
        obtain ⟨W8, hW8⟩ : ∃ W8, W7.alloc (.cells #[.int .i64 c2, .int .i64 m1, .int .i64 m2, .int .i64 x.hi] 3) = W8 := ⟨_, rfl⟩
        have h8 := heap_alloc_new W7 (.cells #[.int .i64 c2, .int .i64 m1, .int .i64 m2, .int .i64 x.hi] 3)
        have hb8 : Below W7.heap.size W7 W8 := by rw [← hW8]; exact balloc (Below.refl _ _) _
        rw [hW8, hY] at h8
        try rw [hW8]
        try rw [hY]
        have HY : Hid (∀ V, Below W8.heap.size W8 V → ∀ i, i < 4 → ∃ y, V.cell? ⟨Y, i, none⟩ = some (.int .i64 y)) := Lib.hid fun V hV i hi => by
          have h := (hV.block Y (Array.getElem?_eq_some_iff.1 h8).1).trans h8
          match i, hi with
          | 0, _ => exact ⟨c2, cell_of h rfl⟩
          | 1, _ => exact ⟨m1, cell_of h rfl⟩
          | 2, _ => exact ⟨m2, cell_of h rfl⟩
          | 3, _ => exact ⟨x.hi, cell_of h rfl⟩
        have HXX : Hid (∀ V, Below W8.heap.size W8 V → AxB V X x (.slice pva x.map.length pvc)) := Lib.hid fun V hV => HBX.out.keep (bnext hb8 hV)
        have HPX : Hid (∀ V, Below W8.heap.size W8 V → PrAt V (.slice pva x.map.length pvc) x.map) := Lib.hid fun V hV => HPR.out.keep (bnext HB7.out (bnext hb8 hV))
        have HB8 := Lib.hid (bnext HBQ.out (bnext HB7.out hb8))
        clear hW8 hY h8 hb8 hm1 hm2 y0 y1 y2 y3 y4 HQ7
        go_wp2_with fail
        go_loopw [160] (fun v160 wr => ∃ i : Nat, v160 = .int .i64 (i : Int) ∧ i ≤ 4 ∧ Below W8.heap.size W8 wr) (fun v _ => 4 - (intOf v).toNat)
        case atStart => exact ⟨0, rfl, by decide, Below.refl _ _⟩
        case round =>
          obtain ⟨i, rfl, hi, hb⟩ := hrel
          obtain ⟨wi, hwi⟩ : ∃ wi, wi = wr := ⟨_, rfl⟩
          subst hwi
          have HBI := Lib.hid hb
          by_cases hi4 : i < 4
          · have hii : (i : Int) < 4 := by omega
            have hi0 : (0 : Int) ≤ (i : Int) := by omega
            obtain ⟨y, hy⟩ := HY.out wi hb i hi4
            obtain ⟨r1, hr1⟩ : ∃ r, AX.check x = r := ⟨_, rfl⟩
            obtain ⟨r2, hr2⟩ : ∃ r, AX.normal x y = r := ⟨_, rfl⟩
            have hl1 : x.map.length ≤ 1000000000000 := by have := HLS.out.1; omega
            have hl2 : x.name.size ≤ 1000000000000 := by have := HLS.out.2; omega
            have HC1 := Lib.hid fun V (hV : Below wi.heap.size wi V) => check_c hr1 (.slice pva x.map.length pvc) V hl1 hl2 (HPX.out V (bnext HBI.out hV))
            have HC2 := Lib.hid fun V (hV : Below wi.heap.size wi V) => rcheck_c hr1 (.slice pva x.map.length pvc) V hl1 hl2 (HPX.out V (bnext HBI.out hV))
            have HC3 := Lib.hid fun V (hV : Below wi.heap.size wi V) => normal_c hr2 (.slice pva x.map.length pvc) V hl1 hl2 (HPX.out V (bnext HBI.out hV))
            have HC4 := Lib.hid fun V (hV : Below wi.heap.size wi V) => rnormal_any x y (.slice pva x.map.length pvc) V hl1 hl2 (HPX.out V (bnext HBI.out hV))
            rw [hr2] at HC4
            have hg1 : (r1 != r1) = false := by simp
            have hg2 : (r2 != r2) = false := by simp
            have HS33 : Hid (∀ V, Below wi.heap.size wi V → (fun w' => w'.cell? ⟨X, 0, none⟩ = some (.string x.name) ∧ w'.cell? ⟨X, 1, none⟩ = some (.int .i64 x.lo) ∧ w'.cell? ⟨X, 2, none⟩ = some (.int .i64 x.de) ∧ w'.cell? ⟨X, 3, none⟩ = some (.int .i64 x.hi) ∧ w'.cell? ⟨X, 4, none⟩ = some (.slice pva x.map.length pvc)) V) := Lib.hid fun V hV => (HXX.out V (bnext HBI.out hV)).cells
            clear hb hr1 hr2 hl1 hl2
            go_upto_region 33 with fail
            refine wp_region_held_drew (S := fun w' => w'.cell? ⟨X, 0, none⟩ = some (.string x.name) ∧ w'.cell? ⟨X, 1, none⟩ = some (.int .i64 x.lo) ∧ w'.cell? ⟨X, 2, none⟩ = some (.int .i64 x.de) ∧ w'.cell? ⟨X, 3, none⟩ = some (.int .i64 x.hi) ∧ w'.cell? ⟨X, 4, none⟩ = some (.slice pva x.map.length pvc)) (by kernel_rfl) ?_ (fun hHeld => ?_)
            · exact HS33.out _ (Below.drew (Below.refl _ wi))
            refine wpAnyH_take (i := 0) (oi := { dst := some 164, op := Op.load 24 (Operand.tmp 12), type := 24, pos := "law.go:82", after := #[], guard := none }) (v := ?_) rfl (by kernel_rfl) (by kernel_rfl) (by kernel_rfl) (fun _ _ _ h => h) (Or.inl ⟨by rfl, ?_⟩) (by assumption) ?_
            rotate_left
            · ((intro w hSw; (try dsimp only at hSw); go_simp; (try rw [if_neg (by omega)])); try with_reducible rfl)
            (try simp only [Act.put, List.setIfInBounds_toArray, List.set_cons_zero, List.set_cons_succ])
            refine wpAnyH_take (i := 2) (oi := { dst := some 166, op := Op.load 24 (Operand.tmp 12), type := 24, pos := "law.go:82", after := #[], guard := none }) (v := ?_) rfl (by kernel_rfl) (by kernel_rfl) (by kernel_rfl) (fun _ _ _ h => h) (Or.inl ⟨by rfl, ?_⟩) (by assumption) ?_
            rotate_left
            · ((intro w hSw; (try dsimp only at hSw); go_simp; (try rw [if_neg (by omega)])); try with_reducible rfl)
            (try simp only [Act.put, List.setIfInBounds_toArray, List.set_cons_zero, List.set_cons_succ])
            refine wpAnyH_ready (rs := [1]) (by kernel_rfl) (by simp) ?_
            refine AllReadyH.cons (o := { dst := some 165, op := Op.call { callee := Callee.value (Operand.func 14), args := #[Operand.tmp 164], argTypes := #[24] }, type := 32, pos := "law.go:82", after := #[{ on := 0, ground := Ground.data }], guard := none }) rfl (fun K hK => ?_) ?_
            · go_simp
              go_at_call 14
              refine (HC1.out _ (Below.drew (Below.refl _ wi))).mono ?_
              rintro e w40 ⟨rfl, hb40⟩
              have a40 := bnext (Below.drew (Below.refl _ wi)) hb40
              dsimp only
              refine hK.out _ _ ?_ (fun hHeld => ?_)
              · exact HS33.out _ a40
              clear hK K
              (try simp only [Act.put, List.setIfInBounds_toArray, List.set_cons_zero, List.set_cons_succ])
              refine wpAnyH_ready (rs := [3]) (by kernel_rfl) (by simp) ?_
              refine AllReadyH.cons (o := { dst := some 167, op := Op.call { callee := Callee.value (Operand.func 15), args := #[Operand.tmp 166], argTypes := #[24] }, type := 32, pos := "law.go:82", after := #[{ on := 2, ground := Ground.data }, { on := 1, ground := Ground.chain }], guard := none }) rfl (fun K hK => ?_) ?_
              · go_simp
                go_at_call 15
                refine (HC2.out _ a40).mono ?_
                rintro e w41 ⟨rfl, hb41⟩
                have a41 := bnext a40 hb41
                dsimp only
                refine hK.out _ _ ?_ (fun hHeld => ?_)
                · exact HS33.out _ a41
                clear hK K
                (try simp only [Act.put, List.setIfInBounds_toArray, List.set_cons_zero, List.set_cons_succ])
                refine wpAnyH_take (i := 4) (oi := { dst := some 168, op := Op.binOp BinOp.neq 32 (Operand.tmp 165) (Operand.tmp 167) 32, type := 4, pos := "law.go:82", after := #[{ on := 1, ground := Ground.data }, { on := 3, ground := Ground.data }], guard := none }) (v := ?_) rfl (by kernel_rfl) (by kernel_rfl) (by kernel_rfl) (fun _ _ _ h => h) (Or.inl ⟨by rfl, ?_⟩) (by assumption) ?_
                rotate_left
                · ((intro w hSw; (try dsimp only at hSw); go_simp; (try rw [if_neg (by omega)])); try with_reducible rfl)
                (try simp only [Act.put, List.setIfInBounds_toArray, List.set_cons_zero, List.set_cons_succ])
                refine wpAnyH_take (i := 5) (oi := { dst := some 169, op := Op.move (Operand.tmp 168), type := 4, pos := "law.go:82", after := #[{ on := 4, ground := Ground.data }, { on := 3, ground := Ground.chain }], guard := none }) (v := ?_) rfl (by kernel_rfl) (by kernel_rfl) (by kernel_rfl) (fun _ _ _ h => h) (Or.inl ⟨by rfl, ?_⟩) (by assumption) ?_
                rotate_left
                · ((intro w hSw; (try dsimp only at hSw); go_simp; (try rw [if_neg (by omega)])); try with_reducible rfl)
                (try simp only [Act.put, List.setIfInBounds_toArray, List.set_cons_zero, List.set_cons_succ])
                refine wpAnyH_take (i := 6) (oi := { dst := some 170, op := Op.load 24 (Operand.tmp 12), type := 24, pos := "law.go:82", after := #[{ on := 5, ground := Ground.guard }], guard := some (5, false) }) (v := ?_) rfl (by kernel_rfl) (by kernel_rfl) (by kernel_rfl) (fun _ _ _ h => h) (Or.inl ⟨by rfl, ?_⟩) (by assumption) ?_
                rotate_left
                · ((intro w hSw; (try dsimp only at hSw); go_simp; (try rw [if_neg (by omega)])); try with_reducible rfl)
                (try simp only [Act.put, List.setIfInBounds_toArray, List.set_cons_zero, List.set_cons_succ])
                refine wpAnyH_take (i := 7) (oi := { dst := some 171, op := Op.move (Operand.tmp 14), type := 3, pos := "law.go:82", after := #[{ on := 5, ground := Ground.guard }], guard := some (5, false) }) (v := ?_) rfl (by kernel_rfl) (by kernel_rfl) (by kernel_rfl) (fun _ _ _ h => h) (Or.inl ⟨by rfl, ?_⟩) (by assumption) ?_
                rotate_left
                · ((intro w hSw; (try dsimp only at hSw); go_simp; (try rw [if_neg (by omega)])); try with_reducible rfl)
                (try simp only [Act.put, List.setIfInBounds_toArray, List.set_cons_zero, List.set_cons_succ])
                refine wpAnyH_take (i := 9) (oi := { dst := some 173, op := Op.load 24 (Operand.tmp 12), type := 24, pos := "law.go:82", after := #[{ on := 5, ground := Ground.guard }], guard := some (5, false) }) (v := ?_) rfl (by kernel_rfl) (by kernel_rfl) (by kernel_rfl) (fun _ _ _ h => h) (Or.inl ⟨by rfl, ?_⟩) (by assumption) ?_
                rotate_left
                · ((intro w hSw; (try dsimp only at hSw); go_simp; (try rw [if_neg (by omega)])); try with_reducible rfl)
                (try simp only [Act.put, List.setIfInBounds_toArray, List.set_cons_zero, List.set_cons_succ])
                refine wpAnyH_take (i := 10) (oi := { dst := some 174, op := Op.move (Operand.tmp 14), type := 3, pos := "law.go:82", after := #[{ on := 5, ground := Ground.guard }], guard := some (5, false) }) (v := ?_) rfl (by kernel_rfl) (by kernel_rfl) (by kernel_rfl) (fun _ _ _ h => h) (Or.inl ⟨by rfl, ?_⟩) (by assumption) ?_
                rotate_left
                · ((intro w hSw; (try dsimp only at hSw); go_simp; (try rw [if_neg (by omega)])); try with_reducible rfl)
                (try simp only [Act.put, List.setIfInBounds_toArray, List.set_cons_zero, List.set_cons_succ])
                refine wpAnyH_ready (rs := [8]) (by kernel_rfl) (by simp) ?_
                refine AllReadyH.cons (o := { dst := some 172, op := Op.call { callee := Callee.value (Operand.func 16), args := #[Operand.tmp 170, Operand.tmp 171], argTypes := #[24, 3] }, type := 3, pos := "law.go:82", after := #[{ on := 6, ground := Ground.data }, { on := 7, ground := Ground.data }, { on := 5, ground := Ground.chain }, { on := 5, ground := Ground.guard }], guard := some (5, false) }) rfl (fun K hK => ?_) ?_
                · go_simp
                  go_at_call 16
                  refine (HC3.out _ a41).mono ?_
                  rintro e w42 ⟨rfl, hb42⟩
                  have a42 := bnext a41 hb42
                  dsimp only
                  refine hK.out _ _ ?_ (fun hHeld => ?_)
                  · exact HS33.out _ a42
                  clear hK K
                  (try simp only [Act.put, List.setIfInBounds_toArray, List.set_cons_zero, List.set_cons_succ])
                  refine wpAnyH_ready (rs := [11]) (by kernel_rfl) (by simp) ?_
                  refine AllReadyH.cons (o := { dst := some 175, op := Op.call { callee := Callee.value (Operand.func 17), args := #[Operand.tmp 173, Operand.tmp 174], argTypes := #[24, 3] }, type := 3, pos := "law.go:82", after := #[{ on := 9, ground := Ground.data }, { on := 10, ground := Ground.data }, { on := 8, ground := Ground.chain }, { on := 5, ground := Ground.guard }], guard := some (5, false) }) rfl (fun K hK => ?_) ?_
                  · go_simp
                    go_at_call 17
                    refine (HC4.out _ a42).mono ?_
                    rintro e w43 ⟨rfl, hb43⟩
                    have a43 := bnext a42 hb43
                    dsimp only
                    refine hK.out _ _ ?_ (fun hHeld => ?_)
                    · exact HS33.out _ a43
                    clear hK K
                    (try simp only [Act.put, List.setIfInBounds_toArray, List.set_cons_zero, List.set_cons_succ])
                    refine wpAnyH_take (i := 12) (oi := { dst := some 176, op := Op.binOp BinOp.neq 3 (Operand.tmp 172) (Operand.tmp 175) 3, type := 4, pos := "law.go:82", after := #[{ on := 8, ground := Ground.data }, { on := 11, ground := Ground.data }, { on := 5, ground := Ground.guard }], guard := some (5, false) }) (v := ?_) rfl (by kernel_rfl) (by kernel_rfl) (by kernel_rfl) (fun _ _ _ h => h) (Or.inl ⟨by rfl, ?_⟩) (by assumption) ?_
                    rotate_left
                    · ((intro w hSw; (try dsimp only at hSw); go_simp; (try rw [if_neg (by omega)])); try with_reducible rfl)
                    (try simp only [Act.put, List.setIfInBounds_toArray, List.set_cons_zero, List.set_cons_succ])
                    refine wpAnyH_take (i := 13) (oi := { dst := some 177, op := Op.pick (Operand.tmp 169) (Operand.const (Value.bool true)) (Operand.tmp 176), type := 4, pos := "law.go:82", after := #[{ on := 5, ground := Ground.data }, { on := 12, ground := Ground.data }], guard := none }) (v := ?_) rfl (by kernel_rfl) (by kernel_rfl) (by kernel_rfl) (fun _ _ _ h => h) (Or.inl ⟨by rfl, ?_⟩) (by assumption) ?_
                    rotate_left
                    · ((intro w hSw; (try dsimp only at hSw); go_simp; (try rw [if_neg (by omega)])); try with_reducible rfl)
                    (try simp only [Act.put, List.setIfInBounds_toArray, List.set_cons_zero, List.set_cons_succ])
                    refine wpAnyH_done (by kernel_rfl) ?_ _
                    have HZ := Lib.hid (bnext HBI.out a43)
                    clear hb40 hb41 hb42 hb43 a40 a41 a42 a43
                    go_wp2_with fail
                    go_roundw
                    case rel => exact ⟨i + 1, by go_num, hi4, HZ.out⟩
                    case measure => simp [intOf]; omega
                  exact AllReadyH.nil
                exact AllReadyH.nil
              exact AllReadyH.nil
            exact AllReadyH.nil
          · obtain rfl : i = 4 := by omega
            have HB9 := Lib.hid (bnext HB8.out hb)
            clear hb
            go_wp2_with fail
            go_roundw
            case rel => exact ⟨j + 1, by go_num, hj3, HB9.out⟩
            case measure => simp [intOf]; omega
      · obtain rfl : j = 3 := by omega
        have HBW := Lib.hid (bnext HB6.out hb)
        obtain ⟨j0, j1, j2, j3, j4⟩ := (HAA.out wq (bnext HBE4.out HBW.out)).cells
        clear hb
        go_wp2_with fail
        refine (check_c HCK.out (.slice aa n ac) _ (by rw [HN.out]; omega) (by rw [HNM.out]; omega) (HRA.out _ (bnext HBE4.out HBW.out))).mono ?_
        rintro e w9 ⟨rfl, hb9⟩
        have HB9 := Lib.hid (bnext HBE.out (bnext HBW.out hb9))
        clear hb9
        go_wp2_with fail
        go_ret
        exact ⟨rfl, HB9.out⟩

set_option maxRecDepth 100000 in
theorem lifted (os : Os) (started : os.Started) (H : Type) (enc : TypeId × Value → H) :
    ReturnsInHanded {} Try.checked os 3 .any (Rows.axesChecksSpec.pre6 enc Try.prog Try.f3 Rows.axesChecksRow.domain false) (Rows.axesChecksSpec.post enc Try.prog Try.f3 false true false false) := by
  refine returnsInHanded_of_change (C := Try.checked) own started (by kernel_rfl) Try.func3
    (ChangeSpec.witness6 (enc := enc) (C := Try.checked) false ⟨#[], #[.agg #[.string ByteArray.empty, .int .i64 0, .int .i64 0, .int .i64 0, .slice none 0 0], .slice none 0 0, .agg #[.int .i64 0, .int .i64 0, .int .i64 0]], []⟩ 8 (by kernel_rfl) (by kernel_rfl) (by kernel_rfl) (by kernel_rfl)) ?_
  intro W base args ds gs before hval0 hW hcnd _
  have hval : ∀ (j : Nat) t v, Try.f3.params[j]? = some t → args[j]? = some v → Value.okWide Try.prog W .any base t v := hval0
  have hW' := hW
  obtain ⟨p, q, hA0, hV, rfl, hfz, hnd⟩ := hW
  have hA : DataW.TrodAll enc Try.prog W 0 (fun _ => true) true Try.f3.params.toList args.toList ds p := hA0
  rw [Try.params3] at hA hval
  obtain ⟨v0, vs0, d0, ds0, p0, q0, hargs, rfl, rfl, h0, r0⟩ := trodAll_cons hA
  obtain ⟨v1, vs1, d1, ds1, p1, q1, rfl, rfl, rfl, h1, r1⟩ := trodAll_cons r0
  obtain ⟨v2, vs2, d2, ds2, p2, q2, rfl, rfl, rfl, h2, r2⟩ := trodAll_cons r1
  obtain ⟨rfl, rfl, rfl⟩ := trodAll_nil r2
  obtain rfl : args = #[v0, v1, v2] := by cases args; simp_all
  obtain ⟨rfl, rfl⟩ := trodVars_none hV
  have k0 := h0
  have lt0 : ∀ x ∈ p0, x.block < W.heap.size := by obtain ⟨m, hm⟩ := k0; exact DataW.trod_lt m _ _ _ hm
  have k1 := h1
  have lt1 : ∀ x ∈ p1, x.block < W.heap.size := by obtain ⟨m, hm⟩ := k1; exact DataW.trod_lt m _ _ _ hm
  have k2 := h2
  have lt2 : ∀ x ∈ p2, x.block < W.heap.size := by obtain ⟨m, hm⟩ := k2; exact DataW.trod_lt m _ _ _ hm
  obtain ⟨u0, x0, rfl, H0⟩ := open_axis (hval 0 24 v0 rfl rfl) h0
  obtain ⟨a1, H1⟩ := open_ins (hval 1 25 v1 rfl rfl) h1
  obtain ⟨a2, b2, c2, rfl, wa2, wb2, wc2⟩ := open_arr3 Try.underlying26 Try.underlying3 (by kernel_rfl) (by kernel_rfl) (hval 2 26 v2 rfl rfl) h2
  clear hA0 hval0
  refine (walk u0 x0 v1 a1 a2 b2 c2 wa2 wb2 wc2 W H0 H1).mono fun e W' ⟨he, bel⟩ => ?_
  subst he
  exact ⟨_, rfl, _, _, _, [], _, [], hW', trodAll_mk1 (shut_bool Try.underlying4 _), (trodAll_cons_mk (Below.trod laidOut (by kernel_rfl) (of_decide_eq_true (by kernel_rfl)) k0 bel lt0) (trodAll_cons_mk (Below.trod laidOut (by kernel_rfl) (of_decide_eq_true (by kernel_rfl)) k1 bel lt1) (trodAll_cons_mk (Below.trod laidOut (by kernel_rfl) (of_decide_eq_true (by kernel_rfl)) k2 bel lt2) trodAll_mk0))), rfl, bel.frame _, fun h => by cases h⟩

theorem over : Rows.axesChecksRow.holds Try.pinned (OpenSpec.ofChange Rows.axesChecksSpec) :=
  OpenClaim.holds_of_wide 3 Try.f3 rfl rfl rfl rfl rfl rfl rfl ⟨rfl, rfl, rfl, rfl, rfl⟩ rfl rfl rfl rfl rfl (by kernel_rfl) Try.func3 (by kernel_rfl)
    (of_decide_eq_true (by kernel_rfl)) (by unfold Func.isWrapper; first | (rw [if_pos (by decide +kernel)]; kernel_rfl) | (rw [if_neg (by decide +kernel)]; exact ⟨rfl, rfl⟩))
    (fun os started H enc _ => lifted os started H enc)

end Go.Proofs.Ytbhkbjnmpaebdaa.axesChecks
namespace Go.Proofs.Ytbhkbjnmpaebdaa
theorem axesChecks_proved : Rows.AxesChecksSaid := axesChecks.over
#print axioms axesChecks_proved
end Go.Proofs.Ytbhkbjnmpaebdaa
