/- Put, where the key is there. No conditions. -/
import Derived.Test.YtmnajongifdajaaMem17
namespace Go.Proofs.Ytmnajongifdajaa
set_option maxRecDepth 100000
set_option linter.unusedVariables false
open Go.RowKit Go.Maps ME
set_option maxHeartbeats 4000000 in
theorem put_found_true (W : World) (M mb root : Nat) (bu s : Int) (L : List (Nat × En)) (n : Nat) (F : Nat → Prop) (k : K4) (hk : K4ok k) (h : MmAt W M mb root bu L n F) (ok : ME.Ok bu (L.map Prod.snd)) (hs0 : 0 ≤ s) (hs1 : s ≤ 65536) (hn : n < 1000000000) (hlen : L.length ≤ 1000000) (A C : List (Nat × En)) (b : Nat) (e : En) (hL : L = A ++ (b, e) :: C) (hke : e.key = k) (hpin : e.pin = true) (hl : look L k = some b) (hfit : s + (ME.pn (L.map Prod.snd) - e.size) ≤ bu) :
    Calls Try.prog 17 #[ptr M, kyV k, .int .i64 s] W fun x w' => PutP W w' M mb root bu n F (ME.put bu k s (L.map Prod.snd)) x := by
  subst hL
  obtain ⟨hk1, hk2, hk3, hk4⟩ : e.f = k.1 ∧ e.k = k.2.1 ∧ e.n = k.2.2.1 ∧ e.r = k.2.2.2 := by rw [← hke]; exact ⟨rfl, rfl, rfl, rfl⟩
  obtain ⟨PP, hPP⟩ : ∃ PP, ME.put bu k s ((A ++ (b, e) :: C).map Prod.snd) = PP := ⟨_, rfl⟩
  rw [hPP]
  have HPP := Lib.hid hPP
  clear hPP
  have HZ := Lib.hid fun V (hV : Below W.heap.size W V) => iszero_some V M bu _ _ mb root (h.below hV).mem.1
  have HFD := Lib.hid fun V (hV : Below W.heap.size W V) => find_any V M mb root bu _ n F k hk (h.below hV)
  rw [hl] at HFD
  obtain ⟨B, hB⟩ : ∃ B, W.heap.size = B := ⟨_, rfl⟩
  have HF : Hid (∀ b, F b → b < B) := Lib.hid fun b hb => by rw [← hB]; exact h.lt b hb
  obtain ⟨W3, hW3, b0, b1, b2, hb3, hs3⟩ := three W (.cells #[.int .i64 k.1, .int .i64 k.2.1, .int .i64 k.2.2.1, .int .i64 k.2.2.2] 34) (.cells #[.int .i64 k.1, .int .i64 k.2.1, .int .i64 k.2.2.1, .int .i64 k.2.2.2, .int .i64 s, .bool false] 73) (.cells #[.int .i64 0, .int .i64 0, .int .i64 0, .int .i64 0, .int .i64 0, .bool false] 73) B hB
  have hbw : Below W.heap.size W W3 := by rw [hB]; exact hb3
  have g0 : ¬ s < 0 := by omega
  have g1 : ¬ 65536 < s := by omega
  have p0 : W3.cell? ⟨B, 0, none⟩ = some (.int .i64 k.1) := nd_cell b0 rfl
  have p1 : W3.cell? ⟨B, 1, none⟩ = some (.int .i64 k.2.1) := nd_cell b0 rfl
  have p2 : W3.cell? ⟨B, 2, none⟩ = some (.int .i64 k.2.2.1) := nd_cell b0 rfl
  have p3 : W3.cell? ⟨B, 3, none⟩ = some (.int .i64 k.2.2.2) := nd_cell b0 rfl
  have mixed : Try.prog.follows .mixedOrders = true := by kernel_rfl
  go_enter Try.func17, Try.ntmps17
  go_wp2_with fail
  go_at_call 32
  refine (HZ.out _ (balloc (Below.refl _ _) _)).mono ?_
  rintro x w1 ⟨rfl, rfl⟩
  go_wp2_with fail
  try rw [hW3]
  go_at_call 27
  refine (HFD.out W3 hbw).mono ?_
  rintro x wa ⟨rfl, hba⟩
  simp only [optP]
  clear p0 p1 p2 p3
  have hma := (h.below hbw).below hba
  have b0a := (hba.block B (by omega)).trans b0
  have b1a := (hba.block (B + 1) (by omega)).trans b1
  have b2a := (hba.block (B + 1 + 1) (by omega)).trans b2
  have hpar := hma.mem.2.1.parts.1
  obtain ⟨y0, y1, y2, y3, y4, y5⟩ := hpar.cells
  rw [hk1] at y0
  rw [hk2] at y1
  rw [hk3] at y2
  rw [hk4] at y3
  rw [hpin] at y5
  have hnd := ok.keys
  rw [snd_mid] at hnd
  have hsz := ok.sz
  have hes := hsz e (by simp)
  have hpl := ME.pn_le hsz
  have hsu := ok.sum
  have hbb := ok.b1
  have hFb := h.ring
  have hbB := HF.out b hFb
  have f20 : ∀ i, wa.frozen? ⟨B + 1 + 1, i, none⟩ = false := fun i => by simp [World.frozen?, b2a]
  have f15 : wa.frozen? ⟨B + 1, 5, none⟩ = false := by simp [World.frozen?, b1a]
  have f0 := f20 0
  have f1 := f20 1
  have f2 := f20 2
  have f3 := f20 3
  have f4 := f20 4
  have f5 := f20 5
  have o0 : wa.cell? ⟨B + 1 + 1, 0, none⟩ = some (.int .i64 0) := nd_cell b2a rfl
  have o1 : wa.cell? ⟨B + 1 + 1, 1, none⟩ = some (.int .i64 0) := nd_cell b2a rfl
  have o2 : wa.cell? ⟨B + 1 + 1, 2, none⟩ = some (.int .i64 0) := nd_cell b2a rfl
  have o3 : wa.cell? ⟨B + 1 + 1, 3, none⟩ = some (.int .i64 0) := nd_cell b2a rfl
  have o4 : wa.cell? ⟨B + 1 + 1, 4, none⟩ = some (.int .i64 0) := nd_cell b2a rfl
  have o5 : wa.cell? ⟨B + 1 + 1, 5, none⟩ = some (.bool false) := nd_cell b2a rfl
  have t5 : wa.cell? ⟨B + 1, 5, none⟩ = some (.bool false) := nd_cell b1a rfl
  go_upto_region 9 with fail
  obtain ⟨wb, hwb⟩ : ∃ wb, (((((((wa.setCell ⟨B + 1 + 1, 0, none⟩ (.int .i64 k.1)).setCell ⟨B + 1 + 1, 1, none⟩ (.int .i64 k.2.1)).setCell ⟨B + 1 + 1, 2, none⟩ (.int .i64 k.2.2.1)).setCell ⟨B + 1 + 1, 3, none⟩ (.int .i64 k.2.2.2)).setCell ⟨B + 1 + 1, 4, none⟩ (.int .i64 e.size)).setCell ⟨B + 1 + 1, 5, none⟩ (.bool true)).setCell ⟨B + 1, 5, none⟩ (.bool true)) = wb := ⟨_, rfl⟩
  obtain ⟨b1b, b2b, hfb⟩ := old_set b1a b2a wb hwb
  try rw [hwb]
  clear hwb y0 y1 y2 y3 y4 y5 f20 f15 f0 f1 f2 f3 f4 f5 o0 o1 o2 o3 o4 o5 t5
  have hmb := hma.kept hfb (fun y hy z => by have := HF.out y hy; omega)
  have b0b := (hfb.block B (Array.getElem?_eq_some_iff.1 b0a).1 (fun z => by omega)).trans b0a
  have HBB := Lib.hid (hfb.below W (bnext hbw hba) (fun y hy => by omega))
  have hpc := hmb.mem.1.cells.2.2.1
  have hbud := hmb.mem.1.cells.1
  obtain ⟨pn, hpn⟩ : ∃ pn, ME.pn ((A ++ (b, e) :: C).map Prod.snd) = pn := ⟨_, rfl⟩
  rw [hpn] at hpc hfit hpl
  have o4 : wb.cell? ⟨B + 1 + 1, 4, none⟩ = some (.int .i64 e.size) := nd_cell b2b rfl
  have o5 : wb.cell? ⟨B + 1 + 1, 5, none⟩ = some (.bool true) := nd_cell b2b rfl
  have hpm := hpn
  rw [snd_mid, ME.pn_app, ME.pn_cons, hpin] at hpm
  rw [if_pos rfl] at hpm
  have hpAC : ME.pn ((A ++ C).map Prod.snd) = pn - e.size := by
    rw [map_snd_app, ME.pn_app]
    omega
  have hw0 : IntKind.i64.wrap (pn - e.size) = pn - e.size := IntWalk.i64_in _ (by omega)
  have hwr : IntKind.i64.wrap (s + (pn - e.size)) = s + (pn - e.size) := IntWalk.i64_in _ (by omega)
  have hfull : ¬ bu < s + (pn - e.size) := by omega
  have hwo : ME.wo k ((A ++ (b, e) :: C).map Prod.snd) = (A ++ C).map Prod.snd := by rw [← hke, snd_mid, ME.wo_mid hnd, map_snd_app]
  have x0 : wb.cell? ⟨B, 0, none⟩ = some (.int .i64 k.1) := nd_cell b0b rfl
  have x1 : wb.cell? ⟨B, 1, none⟩ = some (.int .i64 k.2.1) := nd_cell b0b rfl
  have x2 : wb.cell? ⟨B, 2, none⟩ = some (.int .i64 k.2.2.1) := nd_cell b0b rfl
  have x3 : wb.cell? ⟨B, 3, none⟩ = some (.int .i64 k.2.2.2) := nd_cell b0b rfl
  go_wp2_with fail
  go_at_call 27
  refine (HFD.out wb HBB.out).mono ?_
  rintro x wc ⟨rfl, hbc⟩
  simp only [optP]
  clear x0 x1 x2 x3 o4 o5
  have hmc := hmb.below hbc
  have b0c := (hbc.block B (Array.getElem?_eq_some_iff.1 b0b).1).trans b0b
  have b1c := (hbc.block (B + 1) (Array.getElem?_eq_some_iff.1 b1b).1).trans b1b
  have HRM := Lib.hid (mremove_any wc M mb root bu A C b e n F hmc ok)
  go_wp2_with fail
  go_at_call 31
  refine HRM.out.mono ?_
  rintro x wv ⟨rfl, hmv, hf3, -⟩
  have b0v := (hf3.block B (Array.getElem?_eq_some_iff.1 b0c).1 (fun z => by have := HF.out B z; omega)).trans b0c
  have b1v := (hf3.block (B + 1) (Array.getElem?_eq_some_iff.1 b1c).1 (fun z => by have := HF.out _ z; omega)).trans b1c
  have HFV := Lib.hid ((FrS.of (S := F) (bnext HBB.out hbc)).trans hf3)
  have okv : ME.Ok bu ((A ++ C).map Prod.snd) := by
    have h4 := ok
    rw [snd_mid] at h4
    rw [map_snd_app]
    exact h4.del
  have hno1 : ∀ x ∈ (A ++ C).map Prod.snd, x.key ≠ k := fun x hx => by
    rw [map_snd_app] at hx
    rw [← hke]
    exact (List.mem_append.1 hx).elim ((ME.mid_keys hnd).1 x) ((ME.mid_keys hnd).2 x)
  have hl1 : (A ++ C).length ≤ 1000000 := by
    rw [List.length_append, List.length_cons] at hlen
    rw [List.length_append]
    omega
  have hput : ME.put bu k s ((A ++ (b, e) :: C).map Prod.snd) = ((ME.room bu (ME.sm ((A ++ C).map Prod.snd) + s) ((A ++ C).map Prod.snd)).1 ++ [mkE k s e.pin], (ME.room bu (ME.sm ((A ++ C).map Prod.snd) + s) ((A ++ C).map Prod.snd)).2, 0) := by
    unfold ME.put ME.pinOf
    rw [if_neg (by omega), hwo, if_neg (by rw [hpAC]; omega)]
    rw [show ME.fnd k ((A ++ (b, e) :: C).map Prod.snd) = some e by rw [← hke, snd_mid, ME.fnd_mid hnd]]
  rw [HPP.out, hpin] at hput
  have hfit2 : s + ME.pn ((A ++ C).map Prod.snd) ≤ bu := by rw [hpAC]; omega
  obtain ⟨pv, hpv⟩ : ∃ pv, true = pv := ⟨_, rfl⟩
  rw [hpv] at b1v hput
  obtain ⟨L1, hL1⟩ : ∃ L1, A ++ C = L1 := ⟨_, rfl⟩
  rw [hL1] at hmv okv hno1 hl1 hfit2 hput
  have hfit := hfit2
  have HL1 := Lib.hid hL1
  have HPV := Lib.hid hpv
  clear hL1 hpv hfit2 hw0 hwr hfull hpc hbud hpn hpm hpAC hwo hsz hpl hsu hbb hmb hfb b0b b1b b2b hmc b0c b1c hf3 hbc b0a b1a b2a hma hba b0 b1 b2 hb3 hbw hW3 hs3 ok hlen hl h HFD HZ hpar HRM hnd hes
  have HRO := Lib.hid (callsIn_wide.1 (room_in 3 (Nat.le_refl _) wv M mb root bu s L1 n F hmv okv hs0 hs1 hl1))
  have hsum1 := ME.room_fit s okv.sz hfit
  have hkeys1 := ME.room_keys (bu := bu) (t := ME.sm (L1.map Prod.snd) + s) (k := k) hno1
  have hrl := ME.roomN_len bu (ME.sm (L1.map Prod.snd) + s) L1
  obtain ⟨rm, hrm⟩ : ∃ rm, ME.roomN bu (ME.sm (L1.map Prod.snd) + s) L1 = rm := ⟨_, rfl⟩
  obtain ⟨L2, gone⟩ := rm
  have hrr := ME.roomN_room bu L1 (ME.sm (L1.map Prod.snd) + s)
  rw [hrm] at hrr
  rw [← hrr] at hput
  simp only at hput
  have HPUT := Lib.hid hput
  rw [hrm] at HRO hsum1 hkeys1 hrl
  simp only at HRO hsum1 hkeys1 hrl
  go_wp2_with fail
  go_at_call 33
  refine HRO.out.mono ?_
  rintro x w5 ⟨gv, rfl, hm5, ok5, hrow5, hf5⟩
  clear HRO
  have b05 := (hf5.block B (Array.getElem?_eq_some_iff.1 b0v).1 (fun x => by have := HF.out B x; omega)).trans b0v
  have b15 := (hf5.block (B + 1) (Array.getElem?_eq_some_iff.1 b1v).1 (fun x => by have := HF.out _ x; omega)).trans b1v
  obtain ⟨e0, he0⟩ : ∃ e0, w5.heap.size = e0 := ⟨_, rfl⟩
  have hbe : B + 1 < e0 := by have := (Array.getElem?_eq_some_iff.1 b15).1; omega
  have hn0 := heap_alloc_new w5 (.cells #[.int .i64 k.1, .int .i64 k.2.1, .int .i64 k.2.2.1, .int .i64 k.2.2.2, .int .i64 s, .bool pv, .pointer none, .pointer none] 78)
  have hb6 := balloc (Below.refl w5.heap.size w5) (.cells #[.int .i64 k.1, .int .i64 k.2.1, .int .i64 k.2.2.1, .int .i64 k.2.2.2, .int .i64 s, .bool pv, .pointer none, .pointer none] 78)
  have y0 : w5.cell? ⟨B + 1, 0, none⟩ = some (.int .i64 k.1) := nd_cell b15 rfl
  have y1 : w5.cell? ⟨B + 1, 1, none⟩ = some (.int .i64 k.2.1) := nd_cell b15 rfl
  have y2 : w5.cell? ⟨B + 1, 2, none⟩ = some (.int .i64 k.2.2.1) := nd_cell b15 rfl
  have y3 : w5.cell? ⟨B + 1, 3, none⟩ = some (.int .i64 k.2.2.2) := nd_cell b15 rfl
  have y4 : w5.cell? ⟨B + 1, 4, none⟩ = some (.int .i64 s) := nd_cell b15 rfl
  have y5 : w5.cell? ⟨B + 1, 5, none⟩ = some (.bool pv) := nd_cell b15 rfl
  obtain ⟨w6, hw6⟩ : ∃ w6, w5.alloc (.cells #[.int .i64 k.1, .int .i64 k.2.1, .int .i64 k.2.2.1, .int .i64 k.2.2.2, .int .i64 s, .bool pv, .pointer none, .pointer none] 78) = w6 := ⟨_, rfl⟩
  rw [hw6] at hn0 hb6
  rw [he0] at hn0
  have hb6' := hb6
  rw [he0] at hb6'
  have hN6 : Nd w6 e0 (mkE k s pv) (.pointer none) (.pointer none) := hn0
  have hm6 := hm5.below hb6
  have hnew : e0 ∉ root :: L2.map Prod.fst := fun hx => by
    have : e0 < w5.heap.size := by
      rcases List.mem_cons.1 hx with h | h
      · rw [h]; exact hm5.lt _ hm5.mem.2.2.2.2
      · exact hm5.lt _ (hm5.fL _ h)
    omega
  have hFl : F (lst root L2) := by
    rcases lst_mem root L2 with h | h
    · rw [h]; exact hm5.mem.2.2.2.2
    · exact hm5.fL _ h
  have hnl : ∃ el pl ql, Nd w6 (lst root L2) el pl ql := hm6.mem.2.1.node _ (by
    rcases lst_mem root L2 with h | h
    · rw [h]; simp
    · exact List.mem_cons_of_mem _ h)
  obtain ⟨el, pl, ql, hnl⟩ := hnl
  have hadd := hm6.mem.2.1.add hN6 hnew
  have hne0 : e0 ≠ lst root L2 := fun z => by have := hm5.lt _ hFl; omega
  have HAD := Lib.hid (add_any w6 root e0 (lst root L2) _ _ el _ _ _ _ _ hm6.mem.2.1.2.1 hN6 hnl (fun z => hnew (by rw [z]; simp)) hne0)
  obtain ⟨-, -, -, -, c46⟩ := hm6.mem.1.cells
  obtain ⟨w7, hw7⟩ : ∃ w7, addW w6 root e0 (lst root L2) = w7 := ⟨_, rfl⟩
  have hfr7 : FrS (fun y => F y ∨ y = e0) w6 w7 := by
    rw [← hw7]
    unfold addW
    exact (((FrS.set (S := fun y => F y ∨ y = e0) _ (b := e0) (.inr rfl) _).trans (FrS.set (S := fun y => F y ∨ y = e0) _ (b := e0) (.inr rfl) _)).trans (FrS.set (S := fun y => F y ∨ y = e0) _ (b := lst root L2) (.inl hFl) _)).trans (FrS.set (S := fun y => F y ∨ y = e0) _ (b := root) (.inl hm5.mem.2.2.2.2) _)
  have hMn : ∀ y, (∃ e p q, Nd w6 y e p q) → M ≠ y := fun y ⟨e', p', q', hn'⟩ => hm6.mem.1.ne hn'
  have hbn : ∀ y, (∃ e p q, Nd w6 y e p q) → mb ≠ y := fun y ⟨e', p', q', hn'⟩ => hm6.mem.2.2.1.ne_cells hn'
  have hM7 : Mm w7 M bu (ME.sm (L2.map Prod.snd)) (ME.pn (L2.map Prod.snd)) (.map (some mb)) root := by
    rw [← hw7]
    exact (addW_other (hMn root (hm6.mem.2.1.node root (by simp))) (hMn e0 ⟨_, _, _, hN6⟩) (hMn _ ⟨_, _, _, hnl⟩)).trans hm6.mem.1
  have hO7 : OM w7.drew mb n (look L2) := by
    rw [← hw7]
    exact hm6.mem.2.2.1.same (addW_other (hbn root (hm6.mem.2.1.node root (by simp))) (hbn e0 ⟨_, _, _, hN6⟩) (hbn _ ⟨_, _, _, hnl⟩))
  rw [hw7] at HAD hadd
  have hmbM := hm6.mem.2.2.1.ne_cells hm6.mem.1
  obtain ⟨w8, hrun, hO8, ht8⟩ := hO7.put k hk hn e0
  have hkv : kyV k = .agg #[.int .i64 k.1, .int .i64 k.2.1, .int .i64 k.2.2.1, .int .i64 k.2.2.2] := rfl
  rw [hkv] at hrun
  have hfr8 : FrS (fun y => y = mb) w7 w8 := (FrS.drew w7).trans (FrS.turned ht8 rfl)
  have hM8 := hM7.kept hfr8 (fun z => hmbM z.symm)
  have hrg8 : Rg w8 root (L2 ++ [(e0, mkE k s pv)]) := hadd.kept hfr8 (fun z => hbn root (hm6.mem.2.1.node root (by simp)) z.symm) (fun y hy z => by
    simp only [List.map_append, List.map_cons, List.map_nil, List.mem_append, List.mem_cons, List.not_mem_nil, or_false] at hy
    rcases hy with hy | hy
    · exact hbn y (hm6.mem.2.1.node y (List.mem_cons_of_mem _ hy)) z.symm
    · exact hbn e0 ⟨_, _, _, hN6⟩ (by rw [← hy]; exact z.symm))
  have hlk : look L2 k = none := by
    cases hl : look L2 k with
    | none => rfl
    | some b =>
      obtain ⟨A', e', C', rfl, hk'⟩ := look_some hl
      exact absurd hk' (hkeys1 e' (by simp))
  have hlo : look (L2 ++ [(e0, mkE k s pv)]) = fun x => if x = k then some e0 else look L2 x := funext fun x => look_app (e := mkE k s pv) hlk x
  have hFk : ∀ b, b < e0 → ¬ F b → ∀ o, w5.heap[b]? = some o → w8.heap[b]? = some o := fun b hb hnf o ho => by
    have h1 := (hb6'.block b hb).trans ho
    have h2 := (hfr7.block b (Array.getElem?_eq_some_iff.1 h1).1 (fun z => z.elim hnf (fun z => by omega))).trans h1
    exact (hfr8.block b (Array.getElem?_eq_some_iff.1 h2).1 (fun z => hnf (by rw [z]; exact hm5.mem.2.2.2.1))).trans h2
  have b18 := hFk (B + 1) (by omega) (fun x => by have := HF.out _ x; omega) _ b15
  have hs5 := ok5.sum
  have hb1 := ok5.b1
  have hnn5 := ME.sm_nonneg ok5.sz
  have hpp5 := ME.pn_le ok5.sz
  obtain ⟨us, hus⟩ : ∃ us, ME.sm (L2.map Prod.snd) = us := ⟨_, rfl⟩
  obtain ⟨pn2, hpn2⟩ : ∃ pn2, ME.pn (L2.map Prod.snd) = pn2 := ⟨_, rfl⟩
  rw [hus] at hM8 hs5 hnn5 hpp5 hsum1
  rw [hpn2] at hM8 hpp5
  have HCN := Lib.hid (count_any w8 M root bu us pn2 1 (.map (some mb)) (mkE k s pv) hM8 (.inl rfl) hs0 hs1 (by omega) (by omega) (by omega) (by omega))
  have z0 : w8.cell? ⟨B + 1, 0, none⟩ = some (.int .i64 k.1) := nd_cell b18 rfl
  have z1 : w8.cell? ⟨B + 1, 1, none⟩ = some (.int .i64 k.2.1) := nd_cell b18 rfl
  have z2 : w8.cell? ⟨B + 1, 2, none⟩ = some (.int .i64 k.2.2.1) := nd_cell b18 rfl
  have z3 : w8.cell? ⟨B + 1, 3, none⟩ = some (.int .i64 k.2.2.2) := nd_cell b18 rfl
  have z4 : w8.cell? ⟨B + 1, 4, none⟩ = some (.int .i64 s) := nd_cell b18 rfl
  have z5 : w8.cell? ⟨B + 1, 5, none⟩ = some (.bool pv) := nd_cell b18 rfl
  obtain ⟨-, -, -, c37, -⟩ := hM7.cells
  have b06 := (hb6.block B (by omega)).trans b05
  have b07 := (hfr7.block B (Array.getElem?_eq_some_iff.1 b06).1 (fun z => z.elim (fun x => by have := HF.out _ x; omega) (fun z => by omega))).trans b06
  have x0 : w7.cell? ⟨B, 0, none⟩ = some (.int .i64 k.1) := nd_cell b07 rfl
  have x1 : w7.cell? ⟨B, 1, none⟩ = some (.int .i64 k.2.1) := nd_cell b07 rfl
  have x2 : w7.cell? ⟨B, 2, none⟩ = some (.int .i64 k.2.2.1) := nd_cell b07 rfl
  have x3 : w7.cell? ⟨B, 3, none⟩ = some (.int .i64 k.2.2.2) := nd_cell b07 rfl
  have HFIN : Hid (∀ w9, Mm w9 M bu (us + 1 * s) (if pv then pn2 + 1 * s else pn2) (.map (some mb)) root → FrS (fun b => b = M) w8 w9 → MmAt w9 M mb root bu (L2 ++ [(e0, mkE k s pv)]) (n + 1) (fun y => F y ∨ y = e0) ∧ ME.Ok bu ((L2 ++ [(e0, mkE k s pv)]).map Prod.snd) ∧ w9.ownsRow wv.heap.size 34 4 gv gone.length (ME.kc gone) ∧ FrS F wv w9) := Lib.hid (fun w9 hm9 hf9 => by
    have hM8n : ∀ y, (∃ e p q, Nd w8 y e p q) → M ≠ y := fun y ⟨e', p', q', hn'⟩ => hM8.ne hn'
    have hsz9 : w5.heap.size < w9.heap.size := by
      have h1 := hN6.lt
      have h2 := hfr7.size
      have h3 := hfr8.size
      have h4 := hf9.size
      omega
    have hs2 : (L2 ++ [(e0, mkE k s pv)]).map Prod.snd = L2.map Prod.snd ++ [mkE k s pv] := by simp
    refine ⟨⟨⟨?_, hrg8.kept hf9 (fun z => hM8n root (hrg8.node root (by simp)) z.symm) (fun y hy z => hM8n y (hrg8.node y (List.mem_cons_of_mem _ hy)) z.symm), ?_, .inl hm5.mem.2.2.2.1, .inl hm5.mem.2.2.2.2⟩, .inl hm5.fM, fun y hy => ?_, fun y hy => ?_⟩, ?_, ?_, ?_⟩
    · rw [hs2, ME.sm_app, ME.pn_app, ME.sm_cons, ME.pn_cons, hus, hpn2]
      have e1 : us + (En.size (mkE k s pv) + ME.sm []) = us + 1 * s := by show us + (s + 0) = us + 1 * s; omega
      have e2 : pn2 + ((if (mkE k s pv).pin = true then (mkE k s pv).size else 0) + ME.pn []) = if pv = true then pn2 + 1 * s else pn2 := by
        show pn2 + ((if pv = true then s else 0) + 0) = _
        split <;> omega
      rw [e1, e2]
      exact hm9
    · rw [hlo]
      exact hO8.same (hf9.block mb hO8.lt (fun z => hmbM z))
    · simp only [List.map_append, List.map_cons, List.map_nil, List.mem_append, List.mem_cons, List.not_mem_nil, or_false] at hy
      exact hy.imp (hm5.fL y) id
    · rcases hy with hy | hy
      · have := hm5.lt y hy; omega
      · omega
    · rw [hs2]
      exact ok5.add (e := mkE k s pv) ⟨hs0, hs1⟩ (by rw [hus]; exact hsum1) hk (fun x hx => hkeys1 x hx)
    · have r6 := own_below hrow5 hb6
      have hob : ∀ q, gv.ownBlock = some q → wv.heap.size ≤ q ∧ q < w5.heap.size := hrow5.lt
      have hFv : ∀ y, F y → y < wv.heap.size := hmv.lt
      have r7 := hfr7.own r6 (fun q e z => by have := hob q e; rcases z with z | z; (have := hFv q z; omega); omega)
      have r8 := hfr8.own r7 (fun q e z => by have := hob q e; have := hFv mb hm5.mem.2.2.2.1; omega)
      exact hf9.own r8 (fun q e z => by have := hob q e; have := hFv M hm5.fM; omega)
    · have hwv : wv.heap.size ≤ e0 := by have := hf5.size; omega
      have f2 : FrS F wv w7 := (hf5.then hb6).over hfr7 (fun b hb => hb.imp id (fun z => by omega))
      exact (f2.trans (hfr8.mono (fun y hy => by rw [hy]; exact hm5.mem.2.2.2.1))).trans (hf9.mono (fun y hy => by rw [hy]; exact hm5.fM)))
  have HE0 : Hid (W.heap.size ≤ e0) := Lib.hid (by have h1 := HFV.out.size; have h2 := hf5.size; omega)
  clear hput hrr hmv okv hfit hno1 hl1 hsum1 hkeys1 hrm hm5 ok5 hrow5 hf5 b05 b15 hbe hn0 hb6 hb6' hN6 hm6 hnew hFl hnl hadd hne0 hfr7 hMn hbn hM7 hO7 hmbM hO8 ht8 hfr8 hM8 hrg8 hlk hlo hFk b18 hs5 hb1 hnn5 hpp5 hus hpn2 b06 b07 b0v b1v
  go_upto_region 19 with fail
  try rw [hw6]
  try rw [he0]
  clear hw6 he0 y0 y1 y2 y3 y4 y5
  go_wp2_with fail
  go_at_call 29
  refine HAD.out.mono ?_
  rintro x w7' ⟨rfl, rfl⟩
  clear HAD hw7 c46
  go_upto_region 20 with fail
  go_region_o
  clear c37 x0 x1 x2 x3 hrun
  go_wp2_with fail
  go_at_call 30
  refine HCN.out.mono ?_
  rintro x w9 ⟨rfl, hm9, hf9⟩
  have HE := Lib.hid (HFIN.out w9 hm9 hf9)
  clear HCN HFIN hm9 hf9 z0 z1 z2 z3 z4 z5
  have HE0 : Hid (W.heap.size ≤ e0 ∧ W.heap.size ≤ wv.heap.size) := Lib.hid ⟨HE0.out, HFV.out.size⟩
  go_wp2
  go_ret2
  obtain ⟨q1, q2, q3, q4⟩ := HE.out
  rw [HPUT.out]
  refine ⟨⟨gv, rfl, own_base q3 HE0.out.2⟩, ⟨_, n + 1, _, by rw [map_snd_app]; rfl, Nat.le_refl _, q1, q2, fun y hy => hy.imp id (fun z => by rw [z]; exact HE0.out.1)⟩, HFV.out.trans q4⟩
set_option maxHeartbeats 4000000 in
theorem put_found_true_full (W : World) (M mb root : Nat) (bu s : Int) (L : List (Nat × En)) (n : Nat) (F : Nat → Prop) (k : K4) (hk : K4ok k) (h : MmAt W M mb root bu L n F) (ok : ME.Ok bu (L.map Prod.snd)) (hs0 : 0 ≤ s) (hs1 : s ≤ 65536) (hn : n < 1000000000) (hlen : L.length ≤ 1000000) (A C : List (Nat × En)) (b : Nat) (e : En) (hL : L = A ++ (b, e) :: C) (hke : e.key = k) (hpin : e.pin = true) (hl : look L k = some b) (hfit : bu < s + (ME.pn (L.map Prod.snd) - e.size)) :
    Calls Try.prog 17 #[ptr M, kyV k, .int .i64 s] W fun x w' => PutP W w' M mb root bu n F (ME.put bu k s (L.map Prod.snd)) x := by
  subst hL
  obtain ⟨hk1, hk2, hk3, hk4⟩ : e.f = k.1 ∧ e.k = k.2.1 ∧ e.n = k.2.2.1 ∧ e.r = k.2.2.2 := by rw [← hke]; exact ⟨rfl, rfl, rfl, rfl⟩
  obtain ⟨PP, hPP⟩ : ∃ PP, ME.put bu k s ((A ++ (b, e) :: C).map Prod.snd) = PP := ⟨_, rfl⟩
  rw [hPP]
  have HPP := Lib.hid hPP
  clear hPP
  have HZ := Lib.hid fun V (hV : Below W.heap.size W V) => iszero_some V M bu _ _ mb root (h.below hV).mem.1
  have HFD := Lib.hid fun V (hV : Below W.heap.size W V) => find_any V M mb root bu _ n F k hk (h.below hV)
  rw [hl] at HFD
  obtain ⟨B, hB⟩ : ∃ B, W.heap.size = B := ⟨_, rfl⟩
  have HF : Hid (∀ b, F b → b < B) := Lib.hid fun b hb => by rw [← hB]; exact h.lt b hb
  obtain ⟨W3, hW3, b0, b1, b2, hb3, hs3⟩ := three W (.cells #[.int .i64 k.1, .int .i64 k.2.1, .int .i64 k.2.2.1, .int .i64 k.2.2.2] 34) (.cells #[.int .i64 k.1, .int .i64 k.2.1, .int .i64 k.2.2.1, .int .i64 k.2.2.2, .int .i64 s, .bool false] 73) (.cells #[.int .i64 0, .int .i64 0, .int .i64 0, .int .i64 0, .int .i64 0, .bool false] 73) B hB
  have hbw : Below W.heap.size W W3 := by rw [hB]; exact hb3
  have g0 : ¬ s < 0 := by omega
  have g1 : ¬ 65536 < s := by omega
  have p0 : W3.cell? ⟨B, 0, none⟩ = some (.int .i64 k.1) := nd_cell b0 rfl
  have p1 : W3.cell? ⟨B, 1, none⟩ = some (.int .i64 k.2.1) := nd_cell b0 rfl
  have p2 : W3.cell? ⟨B, 2, none⟩ = some (.int .i64 k.2.2.1) := nd_cell b0 rfl
  have p3 : W3.cell? ⟨B, 3, none⟩ = some (.int .i64 k.2.2.2) := nd_cell b0 rfl
  have mixed : Try.prog.follows .mixedOrders = true := by kernel_rfl
  go_enter Try.func17, Try.ntmps17
  go_wp2_with fail
  go_at_call 32
  refine (HZ.out _ (balloc (Below.refl _ _) _)).mono ?_
  rintro x w1 ⟨rfl, rfl⟩
  go_wp2_with fail
  try rw [hW3]
  go_at_call 27
  refine (HFD.out W3 hbw).mono ?_
  rintro x wa ⟨rfl, hba⟩
  simp only [optP]
  clear p0 p1 p2 p3
  have hma := (h.below hbw).below hba
  have b0a := (hba.block B (by omega)).trans b0
  have b1a := (hba.block (B + 1) (by omega)).trans b1
  have b2a := (hba.block (B + 1 + 1) (by omega)).trans b2
  have hpar := hma.mem.2.1.parts.1
  obtain ⟨y0, y1, y2, y3, y4, y5⟩ := hpar.cells
  rw [hk1] at y0
  rw [hk2] at y1
  rw [hk3] at y2
  rw [hk4] at y3
  rw [hpin] at y5
  have hnd := ok.keys
  rw [snd_mid] at hnd
  have hsz := ok.sz
  have hes := hsz e (by simp)
  have hpl := ME.pn_le hsz
  have hsu := ok.sum
  have hbb := ok.b1
  have hFb := h.ring
  have hbB := HF.out b hFb
  have f20 : ∀ i, wa.frozen? ⟨B + 1 + 1, i, none⟩ = false := fun i => by simp [World.frozen?, b2a]
  have f15 : wa.frozen? ⟨B + 1, 5, none⟩ = false := by simp [World.frozen?, b1a]
  have f0 := f20 0
  have f1 := f20 1
  have f2 := f20 2
  have f3 := f20 3
  have f4 := f20 4
  have f5 := f20 5
  have o0 : wa.cell? ⟨B + 1 + 1, 0, none⟩ = some (.int .i64 0) := nd_cell b2a rfl
  have o1 : wa.cell? ⟨B + 1 + 1, 1, none⟩ = some (.int .i64 0) := nd_cell b2a rfl
  have o2 : wa.cell? ⟨B + 1 + 1, 2, none⟩ = some (.int .i64 0) := nd_cell b2a rfl
  have o3 : wa.cell? ⟨B + 1 + 1, 3, none⟩ = some (.int .i64 0) := nd_cell b2a rfl
  have o4 : wa.cell? ⟨B + 1 + 1, 4, none⟩ = some (.int .i64 0) := nd_cell b2a rfl
  have o5 : wa.cell? ⟨B + 1 + 1, 5, none⟩ = some (.bool false) := nd_cell b2a rfl
  have t5 : wa.cell? ⟨B + 1, 5, none⟩ = some (.bool false) := nd_cell b1a rfl
  go_upto_region 9 with fail
  obtain ⟨wb, hwb⟩ : ∃ wb, (((((((wa.setCell ⟨B + 1 + 1, 0, none⟩ (.int .i64 k.1)).setCell ⟨B + 1 + 1, 1, none⟩ (.int .i64 k.2.1)).setCell ⟨B + 1 + 1, 2, none⟩ (.int .i64 k.2.2.1)).setCell ⟨B + 1 + 1, 3, none⟩ (.int .i64 k.2.2.2)).setCell ⟨B + 1 + 1, 4, none⟩ (.int .i64 e.size)).setCell ⟨B + 1 + 1, 5, none⟩ (.bool true)).setCell ⟨B + 1, 5, none⟩ (.bool true)) = wb := ⟨_, rfl⟩
  obtain ⟨b1b, b2b, hfb⟩ := old_set b1a b2a wb hwb
  try rw [hwb]
  clear hwb y0 y1 y2 y3 y4 y5 f20 f15 f0 f1 f2 f3 f4 f5 o0 o1 o2 o3 o4 o5 t5
  have hmb := hma.kept hfb (fun y hy z => by have := HF.out y hy; omega)
  have b0b := (hfb.block B (Array.getElem?_eq_some_iff.1 b0a).1 (fun z => by omega)).trans b0a
  have HBB := Lib.hid (hfb.below W (bnext hbw hba) (fun y hy => by omega))
  have hpc := hmb.mem.1.cells.2.2.1
  have hbud := hmb.mem.1.cells.1
  obtain ⟨pn, hpn⟩ : ∃ pn, ME.pn ((A ++ (b, e) :: C).map Prod.snd) = pn := ⟨_, rfl⟩
  rw [hpn] at hpc hfit hpl
  have o4 : wb.cell? ⟨B + 1 + 1, 4, none⟩ = some (.int .i64 e.size) := nd_cell b2b rfl
  have o5 : wb.cell? ⟨B + 1 + 1, 5, none⟩ = some (.bool true) := nd_cell b2b rfl
  have hpm := hpn
  rw [snd_mid, ME.pn_app, ME.pn_cons, hpin] at hpm
  rw [if_pos rfl] at hpm
  have hpAC : ME.pn ((A ++ C).map Prod.snd) = pn - e.size := by
    rw [map_snd_app, ME.pn_app]
    omega
  have hw0 : IntKind.i64.wrap (pn - e.size) = pn - e.size := IntWalk.i64_in _ (by omega)
  have hwr : IntKind.i64.wrap (s + (pn - e.size)) = s + (pn - e.size) := IntWalk.i64_in _ (by omega)
  have hfull : bu < s + (pn - e.size) := by omega
  have hwo : ME.wo k ((A ++ (b, e) :: C).map Prod.snd) = (A ++ C).map Prod.snd := by rw [← hke, snd_mid, ME.wo_mid hnd, map_snd_app]
  have hput : ME.put bu k s ((A ++ (b, e) :: C).map Prod.snd) = ((A ++ (b, e) :: C).map Prod.snd, [], 50) := by
    unfold ME.put
    rw [if_neg (by omega), hwo, if_pos (by rw [hpAC]; omega)]
  rw [HPP.out] at hput
  have HPU := Lib.hid hput
  have HFI := Lib.hid (PutP.err (er := 50) hmb ok HBB.out)
  clear hput hwo hpAC hpm hpn hsz hpl hsu hbb b0a b1a b2a hma hba b0 b1 b2 hb3 hbw hW3 hs3 ok hlen hl h HFD HZ hpar hmb hfb b0b b1b b2b
  go_wp2
  go_ret2
  rw [HPU.out]
  exact HFI.out
end Go.Proofs.Ytmnajongifdajaa
