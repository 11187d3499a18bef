/- The reference's put. No conditions. -/
import Derived.Test.YtmnajongifdajaaMem25
namespace Go.Proofs.Ytmnajongifdajaa.ME
set_option linter.unusedVariables false
theorem wo_take {k : K4} {P : List En} {i : Nat} {e : En} (h : P[i]? = some e) : wo k (P.take (i + 1)) = wo k (P.take i) ++ (if e.key = k then [] else [e]) := by
  unfold wo
  rw [List.take_add_one, h]
  by_cases hk : e.key = k <;> simp [hk]
theorem wo_sub {k : K4} {P : List En} : ∀ e ∈ wo k P, e ∈ P := fun e he => (List.mem_filter.1 he).1
theorem wo_len {k : K4} {P : List En} : (wo k P).length ≤ P.length := List.length_filter_le _ _
theorem Ok.wo {bu : Int} {P : List En} (h : Ok bu P) (k : K4) : Ok bu (wo k P) := by
  refine ⟨h.b0, h.b1, fun x hx => h.sz x (wo_sub x hx), ?_, ?_, fun x hx => h.ok x (wo_sub x hx)⟩
  · have h1 := h.sum
    have : ∀ Q : List En, (∀ e ∈ Q, 0 ≤ e.size ∧ e.size ≤ 65536) → sm (ME.wo k Q) ≤ sm Q := fun Q => by
      induction Q with
      | nil => intro _; exact Int.le_refl _
      | cons x Q ih =>
        intro hq
        have h2 := ih (fun e he => hq e (by simp [he]))
        have h3 := (hq x (by simp)).1
        unfold ME.wo at h2 ⊢
        rw [List.filter_cons]
        split
        · rw [sm_cons, sm_cons]; omega
        · rw [sm_cons]; omega
    exact Int.le_trans (this P h.sz) h1
  · exact h.keys.sublist (List.Sublist.map _ List.filter_sublist)
theorem room_stop {bu tot : Int} {R : List En} (h : tot ≤ bu ∨ R = []) : room bu tot R = (R, []) := by
  cases R with
  | nil => rfl
  | cons x R =>
    unfold room
    rw [if_pos (h.resolve_right (by simp))]
theorem room_pin {bu tot : Int} {x : En} {R : List En} (h : ¬ tot ≤ bu) (hp : x.pin = true) : room bu tot (x :: R) = (x :: (room bu tot R).1, (room bu tot R).2) := by
  rw [room, if_neg h, if_pos hp]
theorem room_gone {bu tot : Int} {x : En} {R : List En} (h : ¬ tot ≤ bu) (hp : x.pin = false) : room bu tot (x :: R) = ((room bu (tot - x.size) R).1, x.key :: (room bu (tot - x.size) R).2) := by
  rw [room, if_neg h, if_neg (by rw [hp]; decide)]
end Go.Proofs.Ytmnajongifdajaa.ME
namespace Go.Proofs.Ytmnajongifdajaa
set_option maxRecDepth 100000
set_option linter.unusedVariables false
open Go.RowKit Go.Deep ME
/-- What a round of the reference's making room keeps. -/
structure RpI (W wr : World) (r : Nat) (bu : Int) (G : Nat → Prop) (A R : List En) (vo : Value) (Gn : List K4) (X : Nat) (x : En) : Prop where
  rr : ∃ G', RrAt wr r bu (A ++ R) G' ∧ (∀ b, G' b → G b ∨ W.heap.size ≤ b) ∧ ¬ G' X ∧ ∀ q, vo.ownBlock = some q → ¬ G' q ∧ q ≠ X
  row : wr.ownsRow W.heap.size 34 4 vo Gn.length (ME.kc Gn)
  box : wr.heap[X]? = some (.cells #[.int .i64 x.f, .int .i64 x.k, .int .i64 x.n, .int .i64 x.r, .int .i64 x.size, .bool x.pin] 55 (0, 0))
  fr : FrS G W wr
/-- How many the reference holds. -/
def lenAt (r : Nat) (w : World) : Nat := match w.cell? ⟨r, 2, none⟩ with | some (.slice _ n _) => n | _ => 0
theorem lenAt_eq {r n c : Nat} {a : Option Addr} {w : World} (h : w.cell? ⟨r, 2, none⟩ = some (.slice a n c)) : lenAt r w = n := by simp [lenAt, h]
theorem one_own {w w' : World} {a : Option Addr} {n c : Nat} {b : Nat} (hn : (Value.slice a n c).ownBlock ≠ some b) (hg : w.grownBy w' (Value.slice a n c).ownBlock) (hb : b < w.heap.size) : w'.heap[b]? = w.heap[b]? := hg.block b hb (fun e => hn e.symm)
abbrev S28 (r X : Nat) (va : Option Addr) (nA vc : Nat) (k : K4) (s : Int) (pv : Bool) : World → Prop := fun w' => w'.cell? ⟨r, 2, none⟩ = some (.slice va nA vc) ∧ w'.cell? ⟨X, 0, none⟩ = some (.int .i64 k.1) ∧ w'.cell? ⟨X, 1, none⟩ = some (.int .i64 k.2.1) ∧ w'.cell? ⟨X, 2, none⟩ = some (.int .i64 k.2.2.1) ∧ w'.cell? ⟨X, 3, none⟩ = some (.int .i64 k.2.2.2) ∧ w'.cell? ⟨X, 4, none⟩ = some (.int .i64 s) ∧ w'.cell? ⟨X, 5, none⟩ = some (.bool pv)
/-- The last append of 'Put'. -/
structure RpE (W wr : World) (r : Nat) (bu : Int) (G : Nat → Prop) (Q : List En) (vo : Value) (Gn : List K4) (X : Nat) (k : K4) (s : Int) (pv : Bool) (va : Option Addr) (nA vc : Nat) : Prop where
  len : Q.length = nA
  mem : wr.heap[r]? = some (.cells #[.bool true, .int .i64 bu, .slice va nA vc] 53 (0, 0))
  sa : (fun w' => w'.cell? ⟨r, 2, none⟩ = some (.slice va nA vc) ∧ w'.cell? ⟨X, 0, none⟩ = some (.int .i64 k.1) ∧ w'.cell? ⟨X, 1, none⟩ = some (.int .i64 k.2.1) ∧ w'.cell? ⟨X, 2, none⟩ = some (.int .i64 k.2.2.1) ∧ w'.cell? ⟨X, 3, none⟩ = some (.int .i64 k.2.2.2) ∧ w'.cell? ⟨X, 4, none⟩ = some (.int .i64 s) ∧ w'.cell? ⟨X, 5, none⟩ = some (.bool pv)) wr.drew
  sc : (fun w' => w'.cell? ⟨r, 2, none⟩ = some (.slice va nA vc) ∧ w'.cell? ⟨X, 0, none⟩ = some (.int .i64 k.1) ∧ w'.cell? ⟨X, 1, none⟩ = some (.int .i64 k.2.1) ∧ w'.cell? ⟨X, 2, none⟩ = some (.int .i64 k.2.2.1) ∧ w'.cell? ⟨X, 3, none⟩ = some (.int .i64 k.2.2.2) ∧ w'.cell? ⟨X, 4, none⟩ = some (.int .i64 s) ∧ w'.cell? ⟨X, 5, none⟩ = some (.bool pv)) (wr.alloc (.cells #[.int .i64 k.1, .int .i64 k.2.1, .int .i64 k.2.2.1, .int .i64 k.2.2.2, .int .i64 s, .bool pv] 55)).drew
  row : (wr.alloc (.cells #[.int .i64 k.1, .int .i64 k.2.1, .int .i64 k.2.2.1, .int .i64 k.2.2.2, .int .i64 s, .bool pv] 55)).drew.ownsRow 0 55 6 (.slice va nA vc) nA (ME.kp Q)
  st : ∀ w6, (wr.alloc (.cells #[.int .i64 k.1, .int .i64 k.2.1, .int .i64 k.2.2.1, .int .i64 k.2.2.2, .int .i64 s, .bool pv] 55)).drew.grownBy w6 (Value.slice va nA vc).ownBlock → ((fun w' => w'.cell? ⟨r, 2, none⟩ = some (.slice va nA vc) ∧ w'.cell? ⟨X, 0, none⟩ = some (.int .i64 k.1) ∧ w'.cell? ⟨X, 1, none⟩ = some (.int .i64 k.2.1) ∧ w'.cell? ⟨X, 2, none⟩ = some (.int .i64 k.2.2.1) ∧ w'.cell? ⟨X, 3, none⟩ = some (.int .i64 k.2.2.2) ∧ w'.cell? ⟨X, 4, none⟩ = some (.int .i64 s) ∧ w'.cell? ⟨X, 5, none⟩ = some (.bool pv)) w6) ∧ w6.heap[r]? = some (.cells #[.bool true, .int .i64 bu, .slice va nA vc] 53 (0, 0))
  fin : ∀ w6 v6, (wr.alloc (.cells #[.int .i64 k.1, .int .i64 k.2.1, .int .i64 k.2.2.1, .int .i64 k.2.2.2, .int .i64 s, .bool pv] 55)).drew.grownBy w6 (Value.slice va nA vc).ownBlock → w6.ownsRow 0 55 6 v6 (nA + 1) (ME.kp Q ++ ME.kpL (mkE k s pv)) → (v6.ownBlock = (Value.slice va nA vc).ownBlock ∨ v6.ownBlock = some (wr.alloc (.cells #[.int .i64 k.1, .int .i64 k.2.1, .int .i64 k.2.2.1, .int .i64 k.2.2.2, .int .i64 s, .bool pv] 55)).drew.heap.size) → (w6.setCell ⟨r, 2, none⟩ v6).ownsRow W.heap.size 34 4 vo Gn.length (ME.kc Gn) ∧ RrP W (w6.setCell ⟨r, 2, none⟩ v6) r bu (Q ++ [mkE k s pv]) G
theorem rp_end {W wr : World} {r : Nat} {bu : Int} {G : Nat → Prop} {A R : List En} {vo : Value} {Gn : List K4} {X : Nat} {k : K4} {s : Int} {pv : Bool} (h : RpI W wr r bu G A R vo Gn X (mkE k s pv)) (hG : G r) : ∃ va nA vc, RpE W wr r bu G (A ++ R) vo Gn X k s pv va nA vc := by
  obtain ⟨⟨G', hrr, hG', hGX', hGv⟩, hrow, hbox, hfr⟩ := h
  obtain ⟨⟨v, hr, hrw, hvG⟩, hgr, hlt⟩ := id hrr
  obtain ⟨va, vc, rfl⟩ := own_shape hrw
  obtain ⟨nA, hnA⟩ : ∃ nA, (A ++ R).length = nA := ⟨_, rfl⟩
  rw [hnA] at hr hrw hvG
  obtain ⟨c0, c1, c2⟩ := rmem_cells hr
  have hXs : X < wr.heap.size := (Array.getElem?_eq_some_iff.1 hbox).1
  have hrs : r < wr.heap.size := (Array.getElem?_eq_some_iff.1 hr).1
  have hqv : ∀ q, (Value.slice va nA vc).ownBlock = some q → q < wr.heap.size ∧ q ≠ X ∧ q ≠ r := fun q e => ⟨(hrw.lt q e).2, fun z => hGX' (by rw [← z]; exact (hvG q e).1), fun z => (hvG q e).2 z.symm⟩
  have hbA : Below wr.heap.size wr (wr.alloc (.cells #[.int .i64 k.1, .int .i64 k.2.1, .int .i64 k.2.2.1, .int .i64 k.2.2.2, .int .i64 s, .bool pv] 55)).drew := Below.drew (balloc (Below.refl _ _) _)
  have hbxA := (hbA.block X hXs).trans hbox
  have hrA := (hbA.block r hrs).trans hr
  have hsA := hbA.size
  have ST : ∀ w6, (wr.alloc (.cells #[.int .i64 k.1, .int .i64 k.2.1, .int .i64 k.2.2.1, .int .i64 k.2.2.2, .int .i64 s, .bool pv] 55)).drew.grownBy w6 (Value.slice va nA vc).ownBlock → ((fun w' => w'.cell? ⟨r, 2, none⟩ = some (.slice va nA vc) ∧ w'.cell? ⟨X, 0, none⟩ = some (.int .i64 k.1) ∧ w'.cell? ⟨X, 1, none⟩ = some (.int .i64 k.2.1) ∧ w'.cell? ⟨X, 2, none⟩ = some (.int .i64 k.2.2.1) ∧ w'.cell? ⟨X, 3, none⟩ = some (.int .i64 k.2.2.2) ∧ w'.cell? ⟨X, 4, none⟩ = some (.int .i64 s) ∧ w'.cell? ⟨X, 5, none⟩ = some (.bool pv)) w6) ∧ w6.heap[r]? = some (.cells #[.bool true, .int .i64 bu, .slice va nA vc] 53 (0, 0)) := fun w6 hg => by
    have h1 := (one_own (fun e => (hqv X e).2.1 rfl) hg (by omega)).trans hbxA
    have h2 := (one_own (fun e => (hqv r e).2.2 rfl) hg (by omega)).trans hrA
    exact ⟨⟨(rmem_cells h2).2.2, nd_cell h1 rfl, nd_cell h1 rfl, nd_cell h1 rfl, nd_cell h1 rfl, nd_cell h1 rfl, nd_cell h1 rfl⟩, h2⟩
  refine ⟨va, nA, vc, hnA, hr, ⟨c2, nd_cell hbox rfl, nd_cell hbox rfl, nd_cell hbox rfl, nd_cell hbox rfl, nd_cell hbox rfl, nd_cell hbox rfl⟩, ⟨(rmem_cells hrA).2.2, nd_cell hbxA rfl, nd_cell hbxA rfl, nd_cell hbxA rfl, nd_cell hbxA rfl, nd_cell hbxA rfl, nd_cell hbxA rfl⟩, own_below hrw hbA, ST, ?_⟩
  intro w6 v6 hg hown hat
  have hr6 := (ST w6 hg).2
  have hfS : FrS (fun b => G' b) wr w6 := (FrS.of (S := fun b => G' b) hbA).trans (FrS.grown hg (fun q e => (hvG q e).1))
  have hrv : ∀ q, v6.ownBlock = some q → r ≠ q := fun q e z => by
    rcases hat with h | h
    · exact (hqv q (by rw [← h]; exact e)).2.2 z.symm
    · rw [e] at h
      have := Option.some.inj h
      omega
  refine ⟨?_, ⟨fun b => G' b ∨ v6.ownBlock = some b, ⟨⟨v6, heap_setCell_same w6 r 2 _ _ v6 hr6, ?_, fun q e => ⟨.inr e, hrv q e⟩⟩, .inl hgr, fun b hb => ?_⟩, fun b hb => ?_⟩, ?_⟩
  · have r6 := hfS.own hrow (fun q e z => (hGv q e).1 z)
    exact (FrS.set (S := fun b => b = r) w6 (b := r) rfl v6).own r6 (fun q e z => (hGv q e).1 (by rw [z]; exact hgr))
  · rw [ME.kp_app, show ME.kp [mkE k s pv] = ME.kpL (mkE k s pv) by simp [ME.kp], show ((A ++ R) ++ [mkE k s pv]).length = nA + 1 by rw [← hnA]; simp; omega]
    exact (FrS.set (S := fun b => b = r) w6 (b := r) rfl v6).own hown (fun q e z => hrv q e z.symm)
  · have hg6 := hg.size
    simp only [World.size_setCell]
    rcases hb with hb | hb
    · have := hlt b hb; omega
    · exact (hown.lt b hb).2
  · rcases hb with hb | hb
    · exact hG' b hb
    · rcases hat with h | h
      · exact hG' b (hvG b (by rw [← h]; exact hb)).1
      · right
        have := hfr.size
        rw [hb] at h
        have := Option.some.inj h
        omega
  · exact (hfr.over hfS (fun b hb => hG' b hb)).trans (FrS.set (S := G) _ (b := r) hG _)
set_option maxHeartbeats 8000000 in
theorem rput_in (W : World) (r : Nat) (bu s : Int) (P : List En) (G : Nat → Prop) (k : K4) (h : RrAt W r bu P G) (ok : ME.Ok bu P) (hs0 : 0 ≤ s) (hs1 : s ≤ 65536) (hlen : P.length ≤ 1000000) :
    Calls Try.prog 38 #[ptr r, kyV k, .int .i64 s] W fun x w' => ∃ v, x = .returned (.tuple #[v, .int .i64 (ME.put bu k s P).2.2]) ∧ w'.ownsRow W.heap.size 34 4 v (ME.put bu k s P).2.1.length (ME.kc (ME.put bu k s P).2.1) ∧ RrP W w' r bu (ME.put bu k s P).1 G := by
  obtain ⟨i0, hi0, hz0, hz1, hz2⟩ := info_parts info_ow
  obtain ⟨i1, hj0, hj1, hj2, hj3⟩ := info_parts info_kept
  obtain ⟨PP, hPP⟩ : ∃ PP, ME.put bu k s P = PP := ⟨_, rfl⟩
  rw [hPP]
  have HPP := Lib.hid hPP
  clear hPP
  have hb := balloc (Below.refl _ W) (.cells #[.int .i64 k.1, .int .i64 k.2.1, .int .i64 k.2.2.1, .int .i64 k.2.2.2] 34)
  have bx := heap_alloc_new W (.cells #[.int .i64 k.1, .int .i64 k.2.1, .int .i64 k.2.2.1, .int .i64 k.2.2.2] 34)
  obtain ⟨B, hB⟩ : ∃ B, W.heap.size = B := ⟨_, rfl⟩
  obtain ⟨W1, hW1⟩ : ∃ W1, W.alloc (.cells #[.int .i64 k.1, .int .i64 k.2.1, .int .i64 k.2.2.1, .int .i64 k.2.2.2] 34) = W1 := ⟨_, rfl⟩
  rw [hW1] at bx hb
  have h1 := h.below hb
  rw [hB] at bx
  obtain ⟨⟨v, hr, hrow, hvG⟩, -, -⟩ := id h1
  obtain ⟨va, vc, rfl⟩ := own_shape hrow
  obtain ⟨n, hn⟩ : ∃ n, P.length = n := ⟨_, rfl⟩
  rw [hn] at hr hrow hlen
  obtain ⟨c0, c1, c2⟩ := rmem_cells hr
  have g0 : ¬ s < 0 := by omega
  have g1 : ¬ 65536 < s := by omega
  have HN := Lib.hid hn
  have HR := Lib.hid hr
  have HROW := Lib.hid hrow
  have HBX := Lib.hid bx
  have HB := Lib.hid hb
  have HH := Lib.hid h
  have HH1 := Lib.hid h1
  have HOK := Lib.hid ok
  clear hn hr hrow bx hb h h1 hvG ok
  go_enter Try.func38, Try.ntmps38
  go_wp2
  try rw [hW1]
  try rw [hB]
  go_loopw [8, 9, 10] (fun v8 v9 v10 wr => ∃ i : Nat, v10 = .int .i64 (i : Int) ∧ i ≤ n ∧ v8 = .int .i64 (s + ME.pn (ME.wo k (P.take i))) ∧ v9 = .int .i64 (s + ME.sm (ME.wo k (P.take i))) ∧ Hid (∃ nq, wr = W1.drewN nq)) (fun _ _ v _ => n - (intOf v).toNat)
  case atStart => exact ⟨0, rfl, Nat.zero_le _, by simp [ME.pn, ME.wo], by simp [ME.sm, ME.wo], Lib.hid ⟨0, rfl⟩⟩
  case round =>
    obtain ⟨i, rfl, hi, rfl, rfl, HQ⟩ := hrel
    obtain ⟨n0, rfl⟩ := HQ.out
    have c2' : (W1.drewN n0).cell? ⟨r, 2, none⟩ = some (.slice va n vc) := c2
    have hok1 := HOK.out.wo k
    have hszt : ∀ e ∈ ME.wo k (P.take i), 0 ≤ e.size ∧ e.size ≤ 65536 := fun e he => HOK.out.sz e (List.mem_of_mem_take (ME.wo_sub e he))
    have hst1 := ME.sm_nonneg hszt
    have hpt1 := ME.pn_le hszt
    have hsle : ME.sm (ME.wo k (P.take i)) ≤ 1073741824 := by
      have h1 := ME.sm_take_le HOK.out.sz i
      have h2 : ME.Ok bu (P.take i) := ⟨HOK.out.b0, HOK.out.b1, fun e he => HOK.out.sz e (List.mem_of_mem_take he), by have := HOK.out.sum; omega, by rw [List.map_take]; exact HOK.out.keys.sublist (List.take_sublist _ _), fun e he => HOK.out.ok e (List.mem_of_mem_take he)⟩
      have h3 := (h2.wo k).sum
      have h4 := HOK.out.b1
      omega
    by_cases hin : i < n
    · have hii : (i : Int) < (n : Int) := by omega
      have hi00 : (0 : Int) ≤ (i : Int) := by omega
      obtain ⟨e, he⟩ : ∃ e, P[i]? = some e := ⟨P[i]'(by rw [HN.out]; exact hin), List.getElem?_eq_getElem _⟩
      obtain ⟨g, rfl, -, k0, k1, k2, k3, k4, k5⟩ := kept_at HROW.out he hin
      have hez := HOK.out.sz e (List.mem_of_getElem? he)
      have HWT := Lib.hid (ME.wo_take (k := k) he)
      have x0 : W1.cell? ⟨B, 0, none⟩ = some (.int .i64 k.1) := nd_cell HBX.out rfl
      have x1 : W1.cell? ⟨B, 1, none⟩ = some (.int .i64 k.2.1) := nd_cell HBX.out rfl
      have x2 : W1.cell? ⟨B, 2, none⟩ = some (.int .i64 k.2.2.1) := nd_cell HBX.out rfl
      have x3 : W1.cell? ⟨B, 3, none⟩ = some (.int .i64 k.2.2.2) := nd_cell HBX.out rfl
      obtain ⟨d, hd⟩ : ∃ d, decide (e.key = k) = d := ⟨_, rfl⟩
      have heq : ∀ w, (binOp .eql 34 (.agg #[.int .i64 e.f, .int .i64 e.k, .int .i64 e.n, .int .i64 e.r]) (.agg #[.int .i64 k.1, .int .i64 k.2.1, .int .i64 k.2.2.1, .int .i64 k.2.2.2])).run Try.prog w = .ok (.bool d) w := fun w => by rw [← hd]; exact eq_ow w e.key k
      have HD := Lib.hid hd
      obtain ⟨pa, hpa⟩ : ∃ pa, ME.pn (ME.wo k (P.take i)) = pa := ⟨_, rfl⟩
      obtain ⟨sa, hsa⟩ : ∃ sa, ME.sm (ME.wo k (P.take i)) = sa := ⟨_, rfl⟩
      rw [hpa, hsa] at hpt1
      rw [hsa] at hst1 hsle
      rw [hpa, hsa]
      have HPA := Lib.hid hpa
      have HSA := Lib.hid hsa
      have hw1 : IntKind.i64.wrap (s + sa + e.size) = s + sa + e.size := IntWalk.i64_in _ (by omega)
      have hw2 : IntKind.i64.wrap (s + pa + e.size) = s + pa + e.size := IntWalk.i64_in _ (by omega)
      clear he hd hpa hsa hok1 hszt
      go_wp2
      go_quiet (fail)
      cases d with
      | true =>
        have hk : e.key = k := by have := HD.out; simpa using this
        have HW2 : Hid (ME.wo k (P.take (i + 1)) = ME.wo k (P.take i)) := Lib.hid (by rw [HWT.out, if_pos hk, List.append_nil])
        clear hk k0 k1 k2 k3 k4 k5 x0 x1 x2 x3
        go_wp2
        go_roundw
        case rel => exact ⟨i + 1, by go_num, hin, by rw [HW2.out, HPA.out], by rw [HW2.out, HSA.out], Lib.hid ⟨n0 + nq, rfl⟩⟩
        case measure => simp [intOf]; omega
      | false =>
        have hk : ¬ e.key = k := by have := HD.out; simpa using this
        have HSM : Hid (ME.sm (ME.wo k (P.take (i + 1))) = sa + e.size) := Lib.hid (by rw [HWT.out, if_neg hk, ME.sm_app, HSA.out, ME.sm_cons]; simp [ME.sm])
        have HPN : Hid (ME.pn (ME.wo k (P.take (i + 1))) = pa + (if e.pin = true then e.size else 0)) := Lib.hid (by rw [HWT.out, if_neg hk, ME.pn_app, HPA.out, ME.pn_cons]; simp [ME.pn])
        clear hk x0 x1 x2 x3
        have k4' : (W1.drewN (n0 + nq)).cell? ⟨g, i * 6 + 4, none⟩ = some (.int .i64 e.size) := k4
        have k5' : (W1.drewN (n0 + nq)).cell? ⟨g, i * 6 + 5, none⟩ = some (.bool e.pin) := k5
        cases hpin : e.pin with
        | true =>
          rw [hpin] at k5 k5' HPN
          go_wp2
          go_roundw
          case rel => exact ⟨i + 1, by go_num, hin, by rw [HPN.out, if_pos rfl, Int.add_assoc], by rw [HSM.out, Int.add_assoc], Lib.hid ⟨n0 + nq, rfl⟩⟩
          case measure => simp [intOf]; omega
        | false =>
          rw [hpin] at k5 k5' HPN
          go_wp2
          go_roundw
          case rel => exact ⟨i + 1, by go_num, hin, by rw [HPN.out, if_neg (by decide), Int.add_zero], by rw [HSM.out, Int.add_assoc], Lib.hid ⟨n0 + nq, rfl⟩⟩
          case measure => simp [intOf]; omega
    · obtain rfl : n = i := by omega
      rw [show P.take n = P by rw [← HN.out, List.take_length]] at hszt hst1 hpt1 hsle ⊢
      obtain ⟨pa, hpa⟩ : ∃ pa, ME.pn (ME.wo k P) = pa := ⟨_, rfl⟩
      obtain ⟨sa, hsa⟩ : ∃ sa, ME.sm (ME.wo k P) = sa := ⟨_, rfl⟩
      rw [hpa, hsa] at hpt1
      rw [hsa] at hst1 hsle
      rw [hpa, hsa]
      have hbW : Below W.heap.size W (W1.drewN n0) := ⟨HB.out.os, HB.out.tape, HB.out.output, HB.out.size, HB.out.block⟩
      have hbx1 : (W1.drewN n0).heap[B]? = some (.cells #[.int .i64 k.1, .int .i64 k.2.1, .int .i64 k.2.2.1, .int .i64 k.2.2.2] 34 (0, 0)) := HBX.out
      have hrd : RrAt (W1.drewN n0) r bu P G := HH.out.below hbW
      have c1d : (W1.drewN n0).cell? ⟨r, 1, none⟩ = some (.int .i64 bu) := c1
      obtain ⟨Wd, hWd⟩ : ∃ Wd, W1.drewN n0 = Wd := ⟨_, rfl⟩
      rw [hWd] at hbW hbx1 hrd c1d c2'
      rw [hWd]
      have HPA := Lib.hid hpa
      have HSA := Lib.hid hsa
      clear hWd hpa hsa HQ hok1 hszt c0 c1 c2 hW1
      by_cases hfit : bu < s + pa
      · have hput : ME.put bu k s P = (P, [], 50) := by
          unfold ME.put
          rw [if_neg (by omega), if_pos (by rw [HPA.out]; exact hfit)]
        rw [HPP.out] at hput
        have HPU := Lib.hid hput
        have HFI := Lib.hid (RrP.same HH.out hbW)
        clear hput hbW hrd hbx1
        go_wp2
        go_ret2
        rw [HPU.out]
        exact ⟨_, rfl, World.ownsRow_nil _ _ _ _, HFI.out⟩
      · have x0 : Wd.cell? ⟨B, 0, none⟩ = some (.int .i64 k.1) := nd_cell hbx1 rfl
        have x1 : Wd.cell? ⟨B, 1, none⟩ = some (.int .i64 k.2.1) := nd_cell hbx1 rfl
        have x2 : Wd.cell? ⟨B, 2, none⟩ = some (.int .i64 k.2.2.1) := nd_cell hbx1 rfl
        have x3 : Wd.cell? ⟨B, 3, none⟩ = some (.int .i64 k.2.2.2) := nd_cell hbx1 rfl
        obtain ⟨X, hX⟩ : ∃ X, Wd.heap.size = X := ⟨_, rfl⟩
        have by2 := heap_alloc_new Wd (.cells #[.int .i64 k.1, .int .i64 k.2.1, .int .i64 k.2.2.1, .int .i64 k.2.2.2, .int .i64 s, .bool false] 55)
        have hb2 := balloc (Below.refl _ Wd) (.cells #[.int .i64 k.1, .int .i64 k.2.1, .int .i64 k.2.2.1, .int .i64 k.2.2.2, .int .i64 s, .bool false] 55)
        obtain ⟨W2, hW2⟩ : ∃ W2, Wd.alloc (.cells #[.int .i64 k.1, .int .i64 k.2.1, .int .i64 k.2.2.1, .int .i64 k.2.2.2, .int .i64 s, .bool false] 55) = W2 := ⟨_, rfl⟩
        rw [hW2] at by2 hb2
        rw [hX] at by2
        have h2 := hrd.below hb2
        have hGX : ¬ G X := fun z => by have := hrd.lt X z; omega
        have hBX : B < X := by have := (Array.getElem?_eq_some_iff.1 hbx1).1; omega
        have hWX : W.heap.size ≤ X := by have := hbW.size; omega
        have HFD := Lib.hid (rfind_any W2 r bu P G k h2 (by rw [HN.out]; exact hlen))
        have hbx2 := (hb2.block B (by omega)).trans hbx1
        have y0 : W2.cell? ⟨B, 0, none⟩ = some (.int .i64 k.1) := nd_cell hbx2 rfl
        have y1 : W2.cell? ⟨B, 1, none⟩ = some (.int .i64 k.2.1) := nd_cell hbx2 rfl
        have y2 : W2.cell? ⟨B, 2, none⟩ = some (.int .i64 k.2.2.1) := nd_cell hbx2 rfl
        have y3 : W2.cell? ⟨B, 3, none⟩ = some (.int .i64 k.2.2.2) := nd_cell hbx2 rfl
        have HW2 := Lib.hid (bnext hbW hb2)
        have HWE := Lib.hid hW2
        have HXE := Lib.hid hX
        clear hW2 hX
        go_upto_region 15 with fail
        rw [HWE.out]
        try rw [HXE.out]
        clear HWE x0 x1 x2 x3 c1d c2' hb2 hbW hbx1 hrd HXE
        go_wp2_with fail
        go_at_call 40
        refine HFD.out.mono ?_
        rintro x w3 ⟨rfl, hb3⟩
        clear y0 y1 y2 y3 hbx2 HFD
        have h3 := h2.below hb3
        have by3 := (hb3.block X (Array.getElem?_eq_some_iff.1 by2).1).trans by2
        have HW3 := Lib.hid (bnext HW2.out hb3)
        obtain ⟨T, hT⟩ : ∃ T, s + sa = T := ⟨_, rfl⟩
        have HTT := Lib.hid hT
        rw [hT]
        clear hT hb3 h2 by2 HW2
        rcases p_cases P k with hno | ⟨A, e, C, rfl, rfl⟩
        · rw [ME.fi_none hno]
          obtain ⟨P1, hP1⟩ : ∃ P1, P = P1 := ⟨_, rfl⟩
          obtain ⟨pv, hpv⟩ : ∃ pv, false = pv := ⟨_, rfl⟩
          have hput : PP = ((ME.room bu T P1).1 ++ [mkE k s pv], (ME.room bu T P1).2, 0) := by
            rw [← HPP.out, ← hP1, ← hpv, ← HTT.out]
            unfold ME.put ME.pinOf
            rw [if_neg (by omega), if_neg (by rw [HPA.out]; omega), HSA.out, ME.wo_none hno, ME.fnd_none hno, Int.add_comm]
          have HPU := Lib.hid hput
          have HCH : Hid (ME.Ok bu P1 ∧ T = ME.sm P1 + s ∧ P1.length ≤ 1000000) := Lib.hid ⟨by rw [← hP1]; exact HOK.out, by rw [← HTT.out, ← HSA.out, ← hP1, ME.wo_none hno, Int.add_comm], by rw [← hP1, HN.out]; exact hlen⟩
          rw [hpv] at by3
          rw [hP1] at h3
          have HRI : Hid (RpI W w3 r bu G [] P1 (.slice none 0 0) [] X (mkE k s pv)) := Lib.hid ⟨⟨G, h3, fun b hb => .inl hb, hGX, fun q e => by simp [Value.ownBlock] at e⟩, World.ownsRow_nil _ _ _ _, by3, FrS.of HW3.out⟩
          have hwv : W.heap.size ≤ w3.heap.size := HW3.out.size
          obtain ⟨wv, hwv2⟩ : ∃ wv, w3 = wv := ⟨_, rfl⟩
          rw [hwv2] at HRI ⊢
          clear hwv2 hput hP1 hpv hno h3 by3
          go_wp2_with fail
          go_loopw [9, 13, 14] (fun v9 v13 v14 wr => ∃ (A R : List En) (Gn : List K4) (vo : Value), v14 = .int .i64 (A.length : Int) ∧ v9 = .int .i64 (ME.sm (A ++ R) + s) ∧ v13 = vo ∧ Hid (ME.room bu T P1 = (A ++ (ME.room bu (ME.sm (A ++ R) + s) R).1, Gn ++ (ME.room bu (ME.sm (A ++ R) + s) R).2)) ∧ Hid (RpI W wr r bu G A R vo Gn X (mkE k s pv)) ∧ Hid (ME.Ok bu (A ++ R) ∧ (A ++ R).length ≤ 1000000 ∧ Gn.length + R.length ≤ 1000000)) (fun _ _ v wr => lenAt r wr - (intOf v).toNat)
          case atStart => exact ⟨[], P1, [], _, rfl, by rw [HCH.out.2.1, List.nil_append], rfl, Lib.hid (by rw [HCH.out.2.1]; rfl), HRI, Lib.hid ⟨HCH.out.1, HCH.out.2.2, by have := HCH.out.2.2; simpa using this⟩⟩
          case round =>
            clear HRI
            obtain ⟨A, R, Gn, vo, rfl, rfl, rfl, HRm, HRw, HC⟩ := hrel
            have hroom := HRm.out
            have hsz := HC.out.1.sz
            have hsm0 := ME.sm_nonneg hsz
            have hsm1 := HC.out.1.sum
            have hbb := HC.out.1.b1
            by_cases hstop : ME.sm (A ++ R) + s ≤ bu ∨ R = []
            · skip
              rw [ME.room_stop hstop, List.append_nil] at hroom
              obtain ⟨va, nA, vc, hE⟩ := rp_end HRw.out HH.out.gr
              have hnl : nA ≤ 1000000 := by rw [← hE.len]; exact HC.out.2.1
              obtain ⟨c0, c1, c2⟩ := rmem_cells hE.mem
              have hlA : (A.length : Int) ≤ (nA : Int) := by rw [← hE.len, List.length_append]; omega
              have hcond : ¬ ((A.length : Int) < (nA : Int)) ∨ ¬ (bu < ME.sm (A ++ R) + s) := by
                rcases hstop with h | h
                · right; omega
                · left; rw [← hE.len, h, List.append_nil]; omega
              have HSA := Lib.hid hE.sa
              have HSC := Lib.hid hE.sc
              have HRW := Lib.hid hE.row
              have HST := Lib.hid hE.st
              have HEND := Lib.hid hE.fin
              have HROOM := Lib.hid hroom
              rcases hcond with hcond | hcond
              · have hc1 : decide ((A.length : Int) < (nA : Int)) = false := decide_eq_false hcond
                clear hroom hstop hE
                go_upto_region 28 with fail
                clear hcond c0 c1 c2
                refine wp_region_last #[{ dst := some 165, op := Op.move (Operand.tmp 0), type := 25, pos := "ref.go:80", after := #[], guard := none }, { dst := some 166, op := Op.move (Operand.tmp 0), type := 25, pos := "ref.go:80", after := #[], guard := none }, { dst := some 167, op := Op.nilCheck (Operand.tmp 166), type := 0, pos := "ref.go:80", after := #[{ on := 1, ground := Ground.data }], guard := none }, { dst := some 168, op := Op.fieldAddr 53 (Operand.tmp 167) 2, type := 0, pos := "ref.go:80", after := #[{ on := 2, ground := Ground.data }], guard := none }, { dst := some 169, op := Op.load 51 (Operand.tmp 168), type := 51, pos := "ref.go:80", after := #[{ on := 3, ground := Ground.data }], guard := none }, { dst := some 170, op := Op.load 55 (Operand.tmp 11), type := 55, pos := "ref.go:80", after := #[], guard := none }, { dst := some 171, op := Op.buildSlice 51 1 #[(0, Operand.tmp 170)], type := 51, pos := "ref.go:80", after := #[{ on := 5, ground := Ground.data }], guard := none }, { dst := some 172, op := Op.call { callee := Callee.builtin Builtin.append, args := #[Operand.tmp 169, Operand.tmp 171], argTypes := #[51, 51] }, type := 51, pos := "ref.go:80", after := #[{ on := 4, ground := Ground.data }, { on := 6, ground := Ground.data }], guard := none }, { dst := some 173, op := Op.nilCheck (Operand.tmp 165), type := 0, pos := "ref.go:80", after := #[{ on := 0, ground := Ground.data }, { on := 0, ground := Ground.phase }, { on := 1, ground := Ground.phase }, { on := 2, ground := Ground.phase }, { on := 3, ground := Ground.phase }, { on := 4, ground := Ground.phase }, { on := 5, ground := Ground.phase }, { on := 6, ground := Ground.phase }, { on := 7, ground := Ground.phase }], guard := none }, { dst := some 174, op := Op.fieldAddr 53 (Operand.tmp 173) 2, type := 0, pos := "ref.go:80", after := #[{ on := 8, ground := Ground.data }, { on := 0, ground := Ground.phase }, { on := 1, ground := Ground.phase }, { on := 2, ground := Ground.phase }, { on := 3, ground := Ground.phase }, { on := 4, ground := Ground.phase }, { on := 5, ground := Ground.phase }, { on := 6, ground := Ground.phase }, { on := 7, ground := Ground.phase }], guard := none }] { dst := none, op := Op.store 51 (Operand.tmp 174) (Operand.tmp 172), type := 0, pos := "ref.go:80", after := #[{ on := 9, ground := Ground.data }, { on := 7, ground := Ground.data }, { on := 7, ground := Ground.chain }, { on := 0, ground := Ground.phase }, { on := 1, ground := Ground.phase }, { on := 2, ground := Ground.phase }, { on := 3, ground := Ground.phase }, { on := 4, ground := Ground.phase }, { on := 5, ground := Ground.phase }, { on := 6, ground := Ground.phase }, { on := 7, ground := Ground.phase }], guard := none } rfl (by kernel_rfl) (by kernel_rfl) (fun w' => w'.cell? ⟨r, 2, none⟩ = some (.slice va nA vc) ∧ w'.cell? ⟨X, 0, none⟩ = some (.int .i64 k.1) ∧ w'.cell? ⟨X, 1, none⟩ = some (.int .i64 k.2.1) ∧ w'.cell? ⟨X, 2, none⟩ = some (.int .i64 k.2.2.1) ∧ w'.cell? ⟨X, 3, none⟩ = some (.int .i64 k.2.2.2) ∧ w'.cell? ⟨X, 4, none⟩ = some (.int .i64 s) ∧ w'.cell? ⟨X, 5, none⟩ = some (.bool pv)) ?_ (fun hHeld => ?_)
                · first | exact hS1 | exact HSC.out | exact HSA.out
                refine wpAnyH_take (i := 0) (oi := { dst := some 165, op := Op.move (Operand.tmp 0), type := 25, pos := "ref.go:80", after := #[], guard := none }) (v := ?_) rfl (by kernel_rfl) (by kernel_rfl) (by kernel_rfl) (fun _ _ _ h => h) (Or.inl ⟨by rfl, ?_⟩) (by assumption) ?_
                rotate_left
                · ((intro w hSw; (try dsimp only at hSw); go_simp; (try rw [if_neg (by omega)])); try with_reducible rfl)
                (try simp only [Act.put, List.setIfInBounds_toArray, List.set_cons_zero, List.set_cons_succ])
                refine wpAnyH_take (i := 1) (oi := { dst := some 166, op := Op.move (Operand.tmp 0), type := 25, pos := "ref.go:80", after := #[], guard := none }) (v := ?_) rfl (by kernel_rfl) (by kernel_rfl) (by kernel_rfl) (fun _ _ _ h => h) (Or.inl ⟨by rfl, ?_⟩) (by assumption) ?_
                rotate_left
                · ((intro w hSw; (try dsimp only at hSw); go_simp; (try rw [if_neg (by omega)])); try with_reducible rfl)
                (try simp only [Act.put, List.setIfInBounds_toArray, List.set_cons_zero, List.set_cons_succ])
                refine wpAnyH_take (i := 2) (oi := { dst := some 167, op := Op.nilCheck (Operand.tmp 166), type := 0, pos := "ref.go:80", after := #[{ on := 1, ground := Ground.data }], guard := none }) (v := ?_) rfl (by kernel_rfl) (by kernel_rfl) (by kernel_rfl) (fun _ _ _ h => h) (Or.inl ⟨by rfl, ?_⟩) (by assumption) ?_
                rotate_left
                · ((intro w hSw; (try dsimp only at hSw); go_simp; (try rw [if_neg (by omega)])); try with_reducible rfl)
                (try simp only [Act.put, List.setIfInBounds_toArray, List.set_cons_zero, List.set_cons_succ])
                refine wpAnyH_take (i := 3) (oi := { dst := some 168, op := Op.fieldAddr 53 (Operand.tmp 167) 2, type := 0, pos := "ref.go:80", after := #[{ on := 2, ground := Ground.data }], guard := none }) (v := ?_) rfl (by kernel_rfl) (by kernel_rfl) (by kernel_rfl) (fun _ _ _ h => h) (Or.inl ⟨by rfl, ?_⟩) (by assumption) ?_
                rotate_left
                · ((intro w hSw; (try dsimp only at hSw); go_simp; (try rw [if_neg (by omega)])); try with_reducible rfl)
                (try simp only [Act.put, List.setIfInBounds_toArray, List.set_cons_zero, List.set_cons_succ])
                refine wpAnyH_take (i := 4) (oi := { dst := some 169, op := Op.load 51 (Operand.tmp 168), type := 51, pos := "ref.go:80", after := #[{ on := 3, ground := Ground.data }], guard := none }) (v := ?_) rfl (by kernel_rfl) (by kernel_rfl) (by kernel_rfl) (fun _ _ _ h => h) (Or.inl ⟨by rfl, ?_⟩) (by assumption) ?_
                rotate_left
                · ((intro w hSw; (try dsimp only at hSw); go_simp; (try rw [if_neg (by omega)])); try with_reducible rfl)
                (try simp only [Act.put, List.setIfInBounds_toArray, List.set_cons_zero, List.set_cons_succ])
                refine wpAnyH_take (i := 5) (oi := { dst := some 170, op := Op.load 55 (Operand.tmp 11), type := 55, pos := "ref.go:80", after := #[], guard := none }) (v := ?_) rfl (by kernel_rfl) (by kernel_rfl) (by kernel_rfl) (fun _ _ _ h => h) (Or.inl ⟨by rfl, ?_⟩) (by assumption) ?_
                rotate_left
                · ((intro w hSw; (try dsimp only at hSw); go_simp; (try rw [if_neg (by omega)])); try with_reducible rfl)
                (try simp only [Act.put, List.setIfInBounds_toArray, List.set_cons_zero, List.set_cons_succ])
                refine wpAnyH_ready (rs := [6]) (by kernel_rfl) (by simp) ?_
                refine AllReadyH.cons (o := { dst := some 171, op := Op.buildSlice 51 1 #[(0, Operand.tmp 170)], type := 51, pos := "ref.go:80", after := #[{ on := 5, ground := Ground.data }], guard := none }) rfl (fun K hK => ?_) AllReadyH.nil
                go_simp
                refine hK.out _ _ ?_ (fun hHeld => ?_)
                · first | exact hS1 | exact HSC.out | exact HSA.out
                clear hK K
                (try simp only [Act.put, List.setIfInBounds_toArray, List.set_cons_zero, List.set_cons_succ])
                refine wpAnyH_ready (rs := [7]) (by kernel_rfl) (by simp) ?_
                refine AllReadyH.cons (o := { dst := some 172, op := Op.call { callee := Callee.builtin Builtin.append, args := #[Operand.tmp 169, Operand.tmp 171], argTypes := #[51, 51] }, type := 51, pos := "ref.go:80", after := #[{ on := 4, ground := Ground.data }, { on := 6, ground := Ground.data }], guard := none }) rfl (fun K hK => ?_) AllReadyH.nil
                (refine step_appN (by rfl) _ _ _ (by rfl) 0 55 i1 _ 6 48 Try.underlying51 hj0 hj1 hj2 hj3 rfl (by omega) (.slice va nA vc) nA _ (by rfl) HRW.out (.slice (some ⟨wr.heap.size, 0, none⟩) 1 1) 1 (ME.kpL (mkE k s pv)) (by rfl) (srcN_new wr.drew (ME.kpL (mkE k s pv)) 55 6 1 1 rfl) (by simp [ME.kpL, Value.oneCell']) (by unfold maxLen; omega) (by omega) (Nat.zero_le _) ?_; intro v6 w6 hown6 hg6 hat6; have HS6 := Lib.hid (HST.out w6 hg6); have hS1 := HS6.out.1)
                refine hK.out _ _ ?_ (fun hHeld => ?_)
                · first | exact hS1 | exact HSC.out | exact HSA.out
                clear hK K
                (try simp only [Act.put, List.setIfInBounds_toArray, List.set_cons_zero, List.set_cons_succ])
                refine wpAnyH_take (i := 8) (oi := { dst := some 173, op := Op.nilCheck (Operand.tmp 165), type := 0, pos := "ref.go:80", after := #[{ on := 0, ground := Ground.data }, { on := 0, ground := Ground.phase }, { on := 1, ground := Ground.phase }, { on := 2, ground := Ground.phase }, { on := 3, ground := Ground.phase }, { on := 4, ground := Ground.phase }, { on := 5, ground := Ground.phase }, { on := 6, ground := Ground.phase }, { on := 7, ground := Ground.phase }], guard := none }) (v := ?_) rfl (by kernel_rfl) (by kernel_rfl) (by kernel_rfl) (fun _ _ _ h => h) (Or.inl ⟨by rfl, ?_⟩) (by assumption) ?_
                rotate_left
                · ((intro w hSw; (try dsimp only at hSw); go_simp; (try rw [if_neg (by omega)])); try with_reducible rfl)
                (try simp only [Act.put, List.setIfInBounds_toArray, List.set_cons_zero, List.set_cons_succ])
                refine wpAnyH_take (i := 9) (oi := { dst := some 174, op := Op.fieldAddr 53 (Operand.tmp 173) 2, type := 0, pos := "ref.go:80", after := #[{ on := 8, ground := Ground.data }, { on := 0, ground := Ground.phase }, { on := 1, ground := Ground.phase }, { on := 2, ground := Ground.phase }, { on := 3, ground := Ground.phase }, { on := 4, ground := Ground.phase }, { on := 5, ground := Ground.phase }, { on := 6, ground := Ground.phase }, { on := 7, ground := Ground.phase }], guard := none }) (v := ?_) rfl (by kernel_rfl) (by kernel_rfl) (by kernel_rfl) (fun _ _ _ h => h) (Or.inl ⟨by rfl, ?_⟩) (by assumption) ?_
                rotate_left
                · ((intro w hSw; (try dsimp only at hSw); go_simp; (try rw [if_neg (by omega)])); try with_reducible rfl)
                (try simp only [Act.put, List.setIfInBounds_toArray, List.set_cons_zero, List.set_cons_succ])
                refine wpAnyH_done (by kernel_rfl) ?_ _
                show Oper.wp _ _ _ _ _ _
                have hnl2 := hnl
                obtain ⟨-, hr6⟩ := HS6.out
                obtain ⟨d0, d1, d2⟩ := rmem_cells hr6
                have hfz : w6.frozen? ⟨r, 2, none⟩ = false := by simp [World.frozen?, hr6]
                have HE := Lib.hid (HEND.out w6 v6 hg6 hown6 hat6)
                obtain ⟨oa6, oc6, rfl⟩ := own_shape hown6
                clear hown6 hg6 hat6 hS1 hr6 HS6 HEND HST HSA HSC HRW
                go_wp2
                go_ret2
                rw [HPU.out, HROOM.out]
                have q1 := HE.out.1
                rw [hB] at q1
                exact ⟨_, rfl, q1, HE.out.2⟩
              · have hc1 : decide (bu < ME.sm (A ++ R) + s) = false := decide_eq_false hcond
                by_cases hq : (A.length : Int) < (nA : Int)
                · skip
                  clear hroom hstop hE
                  go_upto_region 28 with fail
                  clear hcond c0 c1 c2
                  refine wp_region_last #[{ dst := some 165, op := Op.move (Operand.tmp 0), type := 25, pos := "ref.go:80", after := #[], guard := none }, { dst := some 166, op := Op.move (Operand.tmp 0), type := 25, pos := "ref.go:80", after := #[], guard := none }, { dst := some 167, op := Op.nilCheck (Operand.tmp 166), type := 0, pos := "ref.go:80", after := #[{ on := 1, ground := Ground.data }], guard := none }, { dst := some 168, op := Op.fieldAddr 53 (Operand.tmp 167) 2, type := 0, pos := "ref.go:80", after := #[{ on := 2, ground := Ground.data }], guard := none }, { dst := some 169, op := Op.load 51 (Operand.tmp 168), type := 51, pos := "ref.go:80", after := #[{ on := 3, ground := Ground.data }], guard := none }, { dst := some 170, op := Op.load 55 (Operand.tmp 11), type := 55, pos := "ref.go:80", after := #[], guard := none }, { dst := some 171, op := Op.buildSlice 51 1 #[(0, Operand.tmp 170)], type := 51, pos := "ref.go:80", after := #[{ on := 5, ground := Ground.data }], guard := none }, { dst := some 172, op := Op.call { callee := Callee.builtin Builtin.append, args := #[Operand.tmp 169, Operand.tmp 171], argTypes := #[51, 51] }, type := 51, pos := "ref.go:80", after := #[{ on := 4, ground := Ground.data }, { on := 6, ground := Ground.data }], guard := none }, { dst := some 173, op := Op.nilCheck (Operand.tmp 165), type := 0, pos := "ref.go:80", after := #[{ on := 0, ground := Ground.data }, { on := 0, ground := Ground.phase }, { on := 1, ground := Ground.phase }, { on := 2, ground := Ground.phase }, { on := 3, ground := Ground.phase }, { on := 4, ground := Ground.phase }, { on := 5, ground := Ground.phase }, { on := 6, ground := Ground.phase }, { on := 7, ground := Ground.phase }], guard := none }, { dst := some 174, op := Op.fieldAddr 53 (Operand.tmp 173) 2, type := 0, pos := "ref.go:80", after := #[{ on := 8, ground := Ground.data }, { on := 0, ground := Ground.phase }, { on := 1, ground := Ground.phase }, { on := 2, ground := Ground.phase }, { on := 3, ground := Ground.phase }, { on := 4, ground := Ground.phase }, { on := 5, ground := Ground.phase }, { on := 6, ground := Ground.phase }, { on := 7, ground := Ground.phase }], guard := none }] { dst := none, op := Op.store 51 (Operand.tmp 174) (Operand.tmp 172), type := 0, pos := "ref.go:80", after := #[{ on := 9, ground := Ground.data }, { on := 7, ground := Ground.data }, { on := 7, ground := Ground.chain }, { on := 0, ground := Ground.phase }, { on := 1, ground := Ground.phase }, { on := 2, ground := Ground.phase }, { on := 3, ground := Ground.phase }, { on := 4, ground := Ground.phase }, { on := 5, ground := Ground.phase }, { on := 6, ground := Ground.phase }, { on := 7, ground := Ground.phase }], guard := none } rfl (by kernel_rfl) (by kernel_rfl) (fun w' => w'.cell? ⟨r, 2, none⟩ = some (.slice va nA vc) ∧ w'.cell? ⟨X, 0, none⟩ = some (.int .i64 k.1) ∧ w'.cell? ⟨X, 1, none⟩ = some (.int .i64 k.2.1) ∧ w'.cell? ⟨X, 2, none⟩ = some (.int .i64 k.2.2.1) ∧ w'.cell? ⟨X, 3, none⟩ = some (.int .i64 k.2.2.2) ∧ w'.cell? ⟨X, 4, none⟩ = some (.int .i64 s) ∧ w'.cell? ⟨X, 5, none⟩ = some (.bool pv)) ?_ (fun hHeld => ?_)
                  · first | exact hS1 | exact HSC.out | exact HSA.out
                  refine wpAnyH_take (i := 0) (oi := { dst := some 165, op := Op.move (Operand.tmp 0), type := 25, pos := "ref.go:80", after := #[], guard := none }) (v := ?_) rfl (by kernel_rfl) (by kernel_rfl) (by kernel_rfl) (fun _ _ _ h => h) (Or.inl ⟨by rfl, ?_⟩) (by assumption) ?_
                  rotate_left
                  · ((intro w hSw; (try dsimp only at hSw); go_simp; (try rw [if_neg (by omega)])); try with_reducible rfl)
                  (try simp only [Act.put, List.setIfInBounds_toArray, List.set_cons_zero, List.set_cons_succ])
                  refine wpAnyH_take (i := 1) (oi := { dst := some 166, op := Op.move (Operand.tmp 0), type := 25, pos := "ref.go:80", after := #[], guard := none }) (v := ?_) rfl (by kernel_rfl) (by kernel_rfl) (by kernel_rfl) (fun _ _ _ h => h) (Or.inl ⟨by rfl, ?_⟩) (by assumption) ?_
                  rotate_left
                  · ((intro w hSw; (try dsimp only at hSw); go_simp; (try rw [if_neg (by omega)])); try with_reducible rfl)
                  (try simp only [Act.put, List.setIfInBounds_toArray, List.set_cons_zero, List.set_cons_succ])
                  refine wpAnyH_take (i := 2) (oi := { dst := some 167, op := Op.nilCheck (Operand.tmp 166), type := 0, pos := "ref.go:80", after := #[{ on := 1, ground := Ground.data }], guard := none }) (v := ?_) rfl (by kernel_rfl) (by kernel_rfl) (by kernel_rfl) (fun _ _ _ h => h) (Or.inl ⟨by rfl, ?_⟩) (by assumption) ?_
                  rotate_left
                  · ((intro w hSw; (try dsimp only at hSw); go_simp; (try rw [if_neg (by omega)])); try with_reducible rfl)
                  (try simp only [Act.put, List.setIfInBounds_toArray, List.set_cons_zero, List.set_cons_succ])
                  refine wpAnyH_take (i := 3) (oi := { dst := some 168, op := Op.fieldAddr 53 (Operand.tmp 167) 2, type := 0, pos := "ref.go:80", after := #[{ on := 2, ground := Ground.data }], guard := none }) (v := ?_) rfl (by kernel_rfl) (by kernel_rfl) (by kernel_rfl) (fun _ _ _ h => h) (Or.inl ⟨by rfl, ?_⟩) (by assumption) ?_
                  rotate_left
                  · ((intro w hSw; (try dsimp only at hSw); go_simp; (try rw [if_neg (by omega)])); try with_reducible rfl)
                  (try simp only [Act.put, List.setIfInBounds_toArray, List.set_cons_zero, List.set_cons_succ])
                  refine wpAnyH_take (i := 4) (oi := { dst := some 169, op := Op.load 51 (Operand.tmp 168), type := 51, pos := "ref.go:80", after := #[{ on := 3, ground := Ground.data }], guard := none }) (v := ?_) rfl (by kernel_rfl) (by kernel_rfl) (by kernel_rfl) (fun _ _ _ h => h) (Or.inl ⟨by rfl, ?_⟩) (by assumption) ?_
                  rotate_left
                  · ((intro w hSw; (try dsimp only at hSw); go_simp; (try rw [if_neg (by omega)])); try with_reducible rfl)
                  (try simp only [Act.put, List.setIfInBounds_toArray, List.set_cons_zero, List.set_cons_succ])
                  refine wpAnyH_take (i := 5) (oi := { dst := some 170, op := Op.load 55 (Operand.tmp 11), type := 55, pos := "ref.go:80", after := #[], guard := none }) (v := ?_) rfl (by kernel_rfl) (by kernel_rfl) (by kernel_rfl) (fun _ _ _ h => h) (Or.inl ⟨by rfl, ?_⟩) (by assumption) ?_
                  rotate_left
                  · ((intro w hSw; (try dsimp only at hSw); go_simp; (try rw [if_neg (by omega)])); try with_reducible rfl)
                  (try simp only [Act.put, List.setIfInBounds_toArray, List.set_cons_zero, List.set_cons_succ])
                  refine wpAnyH_ready (rs := [6]) (by kernel_rfl) (by simp) ?_
                  refine AllReadyH.cons (o := { dst := some 171, op := Op.buildSlice 51 1 #[(0, Operand.tmp 170)], type := 51, pos := "ref.go:80", after := #[{ on := 5, ground := Ground.data }], guard := none }) rfl (fun K hK => ?_) AllReadyH.nil
                  go_simp
                  refine hK.out _ _ ?_ (fun hHeld => ?_)
                  · first | exact hS1 | exact HSC.out | exact HSA.out
                  clear hK K
                  (try simp only [Act.put, List.setIfInBounds_toArray, List.set_cons_zero, List.set_cons_succ])
                  refine wpAnyH_ready (rs := [7]) (by kernel_rfl) (by simp) ?_
                  refine AllReadyH.cons (o := { dst := some 172, op := Op.call { callee := Callee.builtin Builtin.append, args := #[Operand.tmp 169, Operand.tmp 171], argTypes := #[51, 51] }, type := 51, pos := "ref.go:80", after := #[{ on := 4, ground := Ground.data }, { on := 6, ground := Ground.data }], guard := none }) rfl (fun K hK => ?_) AllReadyH.nil
                  (refine step_appN (by rfl) _ _ _ (by rfl) 0 55 i1 _ 6 48 Try.underlying51 hj0 hj1 hj2 hj3 rfl (by omega) (.slice va nA vc) nA _ (by rfl) HRW.out (.slice (some ⟨wr.heap.size, 0, none⟩) 1 1) 1 (ME.kpL (mkE k s pv)) (by rfl) (srcN_new wr.drew (ME.kpL (mkE k s pv)) 55 6 1 1 rfl) (by simp [ME.kpL, Value.oneCell']) (by unfold maxLen; omega) (by omega) (Nat.zero_le _) ?_; intro v6 w6 hown6 hg6 hat6; have HS6 := Lib.hid (HST.out w6 hg6); have hS1 := HS6.out.1)
                  refine hK.out _ _ ?_ (fun hHeld => ?_)
                  · first | exact hS1 | exact HSC.out | exact HSA.out
                  clear hK K
                  (try simp only [Act.put, List.setIfInBounds_toArray, List.set_cons_zero, List.set_cons_succ])
                  refine wpAnyH_take (i := 8) (oi := { dst := some 173, op := Op.nilCheck (Operand.tmp 165), type := 0, pos := "ref.go:80", after := #[{ on := 0, ground := Ground.data }, { on := 0, ground := Ground.phase }, { on := 1, ground := Ground.phase }, { on := 2, ground := Ground.phase }, { on := 3, ground := Ground.phase }, { on := 4, ground := Ground.phase }, { on := 5, ground := Ground.phase }, { on := 6, ground := Ground.phase }, { on := 7, ground := Ground.phase }], guard := none }) (v := ?_) rfl (by kernel_rfl) (by kernel_rfl) (by kernel_rfl) (fun _ _ _ h => h) (Or.inl ⟨by rfl, ?_⟩) (by assumption) ?_
                  rotate_left
                  · ((intro w hSw; (try dsimp only at hSw); go_simp; (try rw [if_neg (by omega)])); try with_reducible rfl)
                  (try simp only [Act.put, List.setIfInBounds_toArray, List.set_cons_zero, List.set_cons_succ])
                  refine wpAnyH_take (i := 9) (oi := { dst := some 174, op := Op.fieldAddr 53 (Operand.tmp 173) 2, type := 0, pos := "ref.go:80", after := #[{ on := 8, ground := Ground.data }, { on := 0, ground := Ground.phase }, { on := 1, ground := Ground.phase }, { on := 2, ground := Ground.phase }, { on := 3, ground := Ground.phase }, { on := 4, ground := Ground.phase }, { on := 5, ground := Ground.phase }, { on := 6, ground := Ground.phase }, { on := 7, ground := Ground.phase }], guard := none }) (v := ?_) rfl (by kernel_rfl) (by kernel_rfl) (by kernel_rfl) (fun _ _ _ h => h) (Or.inl ⟨by rfl, ?_⟩) (by assumption) ?_
                  rotate_left
                  · ((intro w hSw; (try dsimp only at hSw); go_simp; (try rw [if_neg (by omega)])); try with_reducible rfl)
                  (try simp only [Act.put, List.setIfInBounds_toArray, List.set_cons_zero, List.set_cons_succ])
                  refine wpAnyH_done (by kernel_rfl) ?_ _
                  show Oper.wp _ _ _ _ _ _
                  have hnl2 := hnl
                  obtain ⟨-, hr6⟩ := HS6.out
                  obtain ⟨d0, d1, d2⟩ := rmem_cells hr6
                  have hfz : w6.frozen? ⟨r, 2, none⟩ = false := by simp [World.frozen?, hr6]
                  have HE := Lib.hid (HEND.out w6 v6 hg6 hown6 hat6)
                  obtain ⟨oa6, oc6, rfl⟩ := own_shape hown6
                  clear hown6 hg6 hat6 hS1 hr6 HS6 HEND HST HSA HSC HRW
                  go_wp2
                  go_ret2
                  rw [HPU.out, HROOM.out]
                  have q1 := HE.out.1
                  rw [hB] at q1
                  exact ⟨_, rfl, q1, HE.out.2⟩
                · skip
                  clear hroom hstop hE
                  go_upto_region 28 with fail
                  clear hcond c0 c1 c2
                  refine wp_region_last #[{ dst := some 165, op := Op.move (Operand.tmp 0), type := 25, pos := "ref.go:80", after := #[], guard := none }, { dst := some 166, op := Op.move (Operand.tmp 0), type := 25, pos := "ref.go:80", after := #[], guard := none }, { dst := some 167, op := Op.nilCheck (Operand.tmp 166), type := 0, pos := "ref.go:80", after := #[{ on := 1, ground := Ground.data }], guard := none }, { dst := some 168, op := Op.fieldAddr 53 (Operand.tmp 167) 2, type := 0, pos := "ref.go:80", after := #[{ on := 2, ground := Ground.data }], guard := none }, { dst := some 169, op := Op.load 51 (Operand.tmp 168), type := 51, pos := "ref.go:80", after := #[{ on := 3, ground := Ground.data }], guard := none }, { dst := some 170, op := Op.load 55 (Operand.tmp 11), type := 55, pos := "ref.go:80", after := #[], guard := none }, { dst := some 171, op := Op.buildSlice 51 1 #[(0, Operand.tmp 170)], type := 51, pos := "ref.go:80", after := #[{ on := 5, ground := Ground.data }], guard := none }, { dst := some 172, op := Op.call { callee := Callee.builtin Builtin.append, args := #[Operand.tmp 169, Operand.tmp 171], argTypes := #[51, 51] }, type := 51, pos := "ref.go:80", after := #[{ on := 4, ground := Ground.data }, { on := 6, ground := Ground.data }], guard := none }, { dst := some 173, op := Op.nilCheck (Operand.tmp 165), type := 0, pos := "ref.go:80", after := #[{ on := 0, ground := Ground.data }, { on := 0, ground := Ground.phase }, { on := 1, ground := Ground.phase }, { on := 2, ground := Ground.phase }, { on := 3, ground := Ground.phase }, { on := 4, ground := Ground.phase }, { on := 5, ground := Ground.phase }, { on := 6, ground := Ground.phase }, { on := 7, ground := Ground.phase }], guard := none }, { dst := some 174, op := Op.fieldAddr 53 (Operand.tmp 173) 2, type := 0, pos := "ref.go:80", after := #[{ on := 8, ground := Ground.data }, { on := 0, ground := Ground.phase }, { on := 1, ground := Ground.phase }, { on := 2, ground := Ground.phase }, { on := 3, ground := Ground.phase }, { on := 4, ground := Ground.phase }, { on := 5, ground := Ground.phase }, { on := 6, ground := Ground.phase }, { on := 7, ground := Ground.phase }], guard := none }] { dst := none, op := Op.store 51 (Operand.tmp 174) (Operand.tmp 172), type := 0, pos := "ref.go:80", after := #[{ on := 9, ground := Ground.data }, { on := 7, ground := Ground.data }, { on := 7, ground := Ground.chain }, { on := 0, ground := Ground.phase }, { on := 1, ground := Ground.phase }, { on := 2, ground := Ground.phase }, { on := 3, ground := Ground.phase }, { on := 4, ground := Ground.phase }, { on := 5, ground := Ground.phase }, { on := 6, ground := Ground.phase }, { on := 7, ground := Ground.phase }], guard := none } rfl (by kernel_rfl) (by kernel_rfl) (fun w' => w'.cell? ⟨r, 2, none⟩ = some (.slice va nA vc) ∧ w'.cell? ⟨X, 0, none⟩ = some (.int .i64 k.1) ∧ w'.cell? ⟨X, 1, none⟩ = some (.int .i64 k.2.1) ∧ w'.cell? ⟨X, 2, none⟩ = some (.int .i64 k.2.2.1) ∧ w'.cell? ⟨X, 3, none⟩ = some (.int .i64 k.2.2.2) ∧ w'.cell? ⟨X, 4, none⟩ = some (.int .i64 s) ∧ w'.cell? ⟨X, 5, none⟩ = some (.bool pv)) ?_ (fun hHeld => ?_)
                  · first | exact hS1 | exact HSC.out | exact HSA.out
                  refine wpAnyH_take (i := 0) (oi := { dst := some 165, op := Op.move (Operand.tmp 0), type := 25, pos := "ref.go:80", after := #[], guard := none }) (v := ?_) rfl (by kernel_rfl) (by kernel_rfl) (by kernel_rfl) (fun _ _ _ h => h) (Or.inl ⟨by rfl, ?_⟩) (by assumption) ?_
                  rotate_left
                  · ((intro w hSw; (try dsimp only at hSw); go_simp; (try rw [if_neg (by omega)])); try with_reducible rfl)
                  (try simp only [Act.put, List.setIfInBounds_toArray, List.set_cons_zero, List.set_cons_succ])
                  refine wpAnyH_take (i := 1) (oi := { dst := some 166, op := Op.move (Operand.tmp 0), type := 25, pos := "ref.go:80", after := #[], guard := none }) (v := ?_) rfl (by kernel_rfl) (by kernel_rfl) (by kernel_rfl) (fun _ _ _ h => h) (Or.inl ⟨by rfl, ?_⟩) (by assumption) ?_
                  rotate_left
                  · ((intro w hSw; (try dsimp only at hSw); go_simp; (try rw [if_neg (by omega)])); try with_reducible rfl)
                  (try simp only [Act.put, List.setIfInBounds_toArray, List.set_cons_zero, List.set_cons_succ])
                  refine wpAnyH_take (i := 2) (oi := { dst := some 167, op := Op.nilCheck (Operand.tmp 166), type := 0, pos := "ref.go:80", after := #[{ on := 1, ground := Ground.data }], guard := none }) (v := ?_) rfl (by kernel_rfl) (by kernel_rfl) (by kernel_rfl) (fun _ _ _ h => h) (Or.inl ⟨by rfl, ?_⟩) (by assumption) ?_
                  rotate_left
                  · ((intro w hSw; (try dsimp only at hSw); go_simp; (try rw [if_neg (by omega)])); try with_reducible rfl)
                  (try simp only [Act.put, List.setIfInBounds_toArray, List.set_cons_zero, List.set_cons_succ])
                  refine wpAnyH_take (i := 3) (oi := { dst := some 168, op := Op.fieldAddr 53 (Operand.tmp 167) 2, type := 0, pos := "ref.go:80", after := #[{ on := 2, ground := Ground.data }], guard := none }) (v := ?_) rfl (by kernel_rfl) (by kernel_rfl) (by kernel_rfl) (fun _ _ _ h => h) (Or.inl ⟨by rfl, ?_⟩) (by assumption) ?_
                  rotate_left
                  · ((intro w hSw; (try dsimp only at hSw); go_simp; (try rw [if_neg (by omega)])); try with_reducible rfl)
                  (try simp only [Act.put, List.setIfInBounds_toArray, List.set_cons_zero, List.set_cons_succ])
                  refine wpAnyH_take (i := 4) (oi := { dst := some 169, op := Op.load 51 (Operand.tmp 168), type := 51, pos := "ref.go:80", after := #[{ on := 3, ground := Ground.data }], guard := none }) (v := ?_) rfl (by kernel_rfl) (by kernel_rfl) (by kernel_rfl) (fun _ _ _ h => h) (Or.inl ⟨by rfl, ?_⟩) (by assumption) ?_
                  rotate_left
                  · ((intro w hSw; (try dsimp only at hSw); go_simp; (try rw [if_neg (by omega)])); try with_reducible rfl)
                  (try simp only [Act.put, List.setIfInBounds_toArray, List.set_cons_zero, List.set_cons_succ])
                  refine wpAnyH_take (i := 5) (oi := { dst := some 170, op := Op.load 55 (Operand.tmp 11), type := 55, pos := "ref.go:80", after := #[], guard := none }) (v := ?_) rfl (by kernel_rfl) (by kernel_rfl) (by kernel_rfl) (fun _ _ _ h => h) (Or.inl ⟨by rfl, ?_⟩) (by assumption) ?_
                  rotate_left
                  · ((intro w hSw; (try dsimp only at hSw); go_simp; (try rw [if_neg (by omega)])); try with_reducible rfl)
                  (try simp only [Act.put, List.setIfInBounds_toArray, List.set_cons_zero, List.set_cons_succ])
                  refine wpAnyH_ready (rs := [6]) (by kernel_rfl) (by simp) ?_
                  refine AllReadyH.cons (o := { dst := some 171, op := Op.buildSlice 51 1 #[(0, Operand.tmp 170)], type := 51, pos := "ref.go:80", after := #[{ on := 5, ground := Ground.data }], guard := none }) rfl (fun K hK => ?_) AllReadyH.nil
                  go_simp
                  refine hK.out _ _ ?_ (fun hHeld => ?_)
                  · first | exact hS1 | exact HSC.out | exact HSA.out
                  clear hK K
                  (try simp only [Act.put, List.setIfInBounds_toArray, List.set_cons_zero, List.set_cons_succ])
                  refine wpAnyH_ready (rs := [7]) (by kernel_rfl) (by simp) ?_
                  refine AllReadyH.cons (o := { dst := some 172, op := Op.call { callee := Callee.builtin Builtin.append, args := #[Operand.tmp 169, Operand.tmp 171], argTypes := #[51, 51] }, type := 51, pos := "ref.go:80", after := #[{ on := 4, ground := Ground.data }, { on := 6, ground := Ground.data }], guard := none }) rfl (fun K hK => ?_) AllReadyH.nil
                  (refine step_appN (by rfl) _ _ _ (by rfl) 0 55 i1 _ 6 48 Try.underlying51 hj0 hj1 hj2 hj3 rfl (by omega) (.slice va nA vc) nA _ (by rfl) HRW.out (.slice (some ⟨wr.heap.size, 0, none⟩) 1 1) 1 (ME.kpL (mkE k s pv)) (by rfl) (srcN_new wr.drew (ME.kpL (mkE k s pv)) 55 6 1 1 rfl) (by simp [ME.kpL, Value.oneCell']) (by unfold maxLen; omega) (by omega) (Nat.zero_le _) ?_; intro v6 w6 hown6 hg6 hat6; have HS6 := Lib.hid (HST.out w6 hg6); have hS1 := HS6.out.1)
                  refine hK.out _ _ ?_ (fun hHeld => ?_)
                  · first | exact hS1 | exact HSC.out | exact HSA.out
                  clear hK K
                  (try simp only [Act.put, List.setIfInBounds_toArray, List.set_cons_zero, List.set_cons_succ])
                  refine wpAnyH_take (i := 8) (oi := { dst := some 173, op := Op.nilCheck (Operand.tmp 165), type := 0, pos := "ref.go:80", after := #[{ on := 0, ground := Ground.data }, { on := 0, ground := Ground.phase }, { on := 1, ground := Ground.phase }, { on := 2, ground := Ground.phase }, { on := 3, ground := Ground.phase }, { on := 4, ground := Ground.phase }, { on := 5, ground := Ground.phase }, { on := 6, ground := Ground.phase }, { on := 7, ground := Ground.phase }], guard := none }) (v := ?_) rfl (by kernel_rfl) (by kernel_rfl) (by kernel_rfl) (fun _ _ _ h => h) (Or.inl ⟨by rfl, ?_⟩) (by assumption) ?_
                  rotate_left
                  · ((intro w hSw; (try dsimp only at hSw); go_simp; (try rw [if_neg (by omega)])); try with_reducible rfl)
                  (try simp only [Act.put, List.setIfInBounds_toArray, List.set_cons_zero, List.set_cons_succ])
                  refine wpAnyH_take (i := 9) (oi := { dst := some 174, op := Op.fieldAddr 53 (Operand.tmp 173) 2, type := 0, pos := "ref.go:80", after := #[{ on := 8, ground := Ground.data }, { on := 0, ground := Ground.phase }, { on := 1, ground := Ground.phase }, { on := 2, ground := Ground.phase }, { on := 3, ground := Ground.phase }, { on := 4, ground := Ground.phase }, { on := 5, ground := Ground.phase }, { on := 6, ground := Ground.phase }, { on := 7, ground := Ground.phase }], guard := none }) (v := ?_) rfl (by kernel_rfl) (by kernel_rfl) (by kernel_rfl) (fun _ _ _ h => h) (Or.inl ⟨by rfl, ?_⟩) (by assumption) ?_
                  rotate_left
                  · ((intro w hSw; (try dsimp only at hSw); go_simp; (try rw [if_neg (by omega)])); try with_reducible rfl)
                  (try simp only [Act.put, List.setIfInBounds_toArray, List.set_cons_zero, List.set_cons_succ])
                  refine wpAnyH_done (by kernel_rfl) ?_ _
                  show Oper.wp _ _ _ _ _ _
                  have hnl2 := hnl
                  obtain ⟨-, hr6⟩ := HS6.out
                  obtain ⟨d0, d1, d2⟩ := rmem_cells hr6
                  have hfz : w6.frozen? ⟨r, 2, none⟩ = false := by simp [World.frozen?, hr6]
                  have HE := Lib.hid (HEND.out w6 v6 hg6 hown6 hat6)
                  obtain ⟨oa6, oc6, rfl⟩ := own_shape hown6
                  clear hown6 hg6 hat6 hS1 hr6 HS6 HEND HST HSA HSC HRW
                  go_wp2
                  go_ret2
                  rw [HPU.out, HROOM.out]
                  have q1 := HE.out.1
                  rw [hB] at q1
                  exact ⟨_, rfl, q1, HE.out.2⟩
            · obtain ⟨x, R, rfl⟩ : ∃ x R', R = x :: R' := by
                cases R with
                | nil => exact absurd (.inr rfl) hstop
                | cons x R => exact ⟨x, R, rfl⟩
              have hgt : ¬ ME.sm (A ++ x :: R) + s ≤ bu := fun z => hstop (.inl z)
              have hgt2 : bu < ME.sm (A ++ x :: R) + s := by omega
              obtain ⟨⟨G', hrr, hG', hGX', hGv⟩, hrow, hbox, hfr⟩ := HRw.out
              obtain ⟨⟨v, hr, hrw, hvG⟩, hgr, hlt⟩ := id hrr
              obtain ⟨va, vc, rfl⟩ := own_shape hrw
              obtain ⟨nA, hnA⟩ : ∃ nA, (A ++ x :: R).length = nA := ⟨_, rfl⟩
              obtain ⟨p, hp⟩ : ∃ p, A.length = p := ⟨_, rfl⟩
              have hlp : (p : Int) < (nA : Int) := by rw [← hnA, ← hp]; simp; omega
              have hp0 : (0 : Int) ≤ (p : Int) := by omega
              have hget : (A ++ x :: R)[p]? = some x := by rw [← hp]; simp
              rw [hnA] at hr hrw
              have hc2 := rmem_cells hr
              obtain ⟨g, rfl, hgl, k0, k1, k2, k3, k4, k5⟩ := kept_at hrw hget (by omega)
              obtain ⟨c0, c1, c2⟩ := hc2
              have hxz := hsz x (by simp)
              have hnl : nA ≤ 1000000 := by rw [← hnA]; exact HC.out.2.1
              have HLN : Hid (lenAt r wr = nA) := Lib.hid (lenAt_eq c2)
              have HG := Lib.hid hgt
              have HNA := Lib.hid hnA
              have HP := Lib.hid hp
              obtain ⟨tot, htot⟩ : ∃ tot, ME.sm (A ++ x :: R) + s = tot := ⟨_, rfl⟩
              rw [htot] at hgt2 ⊢
              rw [hp]
              have HTO := Lib.hid htot
              clear hgt hstop hnA hp hget hroom htot
              cases hpin : x.pin with
              | true =>
                rw [hpin] at k5
                have HST : Hid (ME.room bu T P1 = ((A ++ [x]) ++ (ME.room bu (ME.sm ((A ++ [x]) ++ R) + s) R).1, Gn ++ (ME.room bu (ME.sm ((A ++ [x]) ++ R) + s) R).2)) := Lib.hid (by
                  rw [HRm.out, ME.room_pin HG.out hpin]
                  simp)
                have HAP : Hid ((A ++ [x]) ++ R = A ++ x :: R) := Lib.hid (by simp)
                clear hrr hG' hGX' hGv hrow hbox hfr hr hrw hvG hgr hlt k0 k1 k2 k3 k4
                go_wp2
                go_roundw
                case rel =>
                  refine ⟨A ++ [x], R, Gn, _, by rw [List.length_append, HP.out, List.length_singleton]; go_num, by rw [HAP.out, HTO.out], rfl, HST, ?_, Lib.hid ⟨by rw [HAP.out]; exact HC.out.1, by rw [HAP.out]; exact HC.out.2.1, by have := HC.out.2.2; simp at this ⊢; omega⟩⟩
                  have h := HRw.out
                  exact Lib.hid ⟨by rw [HAP.out]; exact h.rr, h.row, h.box, h.fr⟩
                case measure =>
                  show lenAt r wr - ((p : Int) + 1).toNat < lenAt r wr - (p : Int).toNat
                  rw [HLN.out]
                  omega
              | false =>
                rw [hpin] at k5
                have hwr : IntKind.i64.wrap (tot - x.size) = tot - x.size := IntWalk.i64_in _ (by have := HTO.out; omega)
                have hwp : IntKind.i64.wrap ((p : Int) - 1) = (p : Int) - 1 := IntWalk.i64_in _ (by omega)
                have hwp2 : IntKind.i64.wrap ((p : Int) - 1 + 1) = (p : Int) := by rw [IntWalk.i64_in _ (by omega)]; omega
                have HTS : Hid (tot - x.size = ME.sm (A ++ R) + s) := Lib.hid (by
                  rw [← HTO.out, ME.sm_app, ME.sm_app, ME.sm_cons]
                  omega)
                have HST : Hid (ME.room bu T P1 = (A ++ (ME.room bu (ME.sm (A ++ R) + s) R).1, (Gn ++ [x.key]) ++ (ME.room bu (ME.sm (A ++ R) + s) R).2)) := Lib.hid (by
                  rw [HRm.out, ME.room_gone HG.out hpin, HTO.out, HTS.out]
                  simp)
                obtain ⟨oa, oc, rfl⟩ := own_shape hrow
                have hGl : Gn.length ≤ 1000000 := by have := HC.out.2.2; omega
                have hob : ∀ q, (Value.slice oa Gn.length oc).ownBlock = some q → W.heap.size ≤ q ∧ q < wr.heap.size := hrow.lt
                have hXs : X < wr.heap.size := (Array.getElem?_eq_some_iff.1 hbox).1
                have hGv' : ∀ q, (Value.slice oa Gn.length oc).ownBlock = some q → ¬ G' q := fun q e => (hGv q e).1
                have hGX2 : (Value.slice oa Gn.length oc).ownBlock ≠ some X := fun e => (hGv X e).2 rfl
                have HK7 : Hid (∀ w7, (wr.alloc (.cells #[.int .i64 x.f, .int .i64 x.k, .int .i64 x.n, .int .i64 x.r] 34)).grownBy w7 (Value.slice oa Gn.length oc).ownBlock → FrS (fun b => (Value.slice oa Gn.length oc).ownBlock = some b) wr w7 ∧ w7.heap[r]? = some (.cells #[.bool true, .int .i64 bu, .slice (some ⟨g, 0, none⟩) nA vc] 53 (0, 0)) ∧ RrAt w7 r bu (A ++ x :: R) G' ∧ w7.cell? ⟨g, p * 6 + 4, none⟩ = some (.int .i64 x.size)) := Lib.hid fun w7 hg => by
                  have hf : FrS (fun b => (Value.slice oa Gn.length oc).ownBlock = some b) wr w7 := (FrS.of (balloc (Below.refl _ _) _)).trans (FrS.grown hg (fun q e => e))
                  have hGg : G' g := (hvG g rfl).1
                  refine ⟨hf, (hf.block r (hlt r hgr) (fun e => hGv' r e hgr)).trans hr, hrr.kept hf (fun b hb e => hGv' b e hb), ?_⟩
                  have hbg := hf.block g hgl (fun e => hGv' g e hGg)
                  rw [← k4]
                  simp only [World.cell?, hbg]
                have HGV := Lib.hid hGv'
                have HOB := Lib.hid hob
                have HBO := Lib.hid hbox
                have HFR := Lib.hid hfr
                have HGE := Lib.hid hG'
                have HGR := Lib.hid hgr
                have HLT := Lib.hid hlt
                clear hrr hG' hGv hGv' hob hbox hr hrw hvG hgr hlt
                go_upto_region 26 with (at_builtin; refine wpList_appN _ rfl _ _ 43 rfl W.heap.size 34 i0 _ 4 32 Try.underlying43 hi0 hz0 hz1 hz2 rfl (by decide) (.slice oa Gn.length oc) Gn.length _ rfl (own_below hrow (balloc (Below.refl _ _) _)) (.slice (some ⟨wr.heap.size, 0, none⟩) 1 1) 1 (ME.kyL x.key) rfl (srcN_new wr (ME.kyL x.key) 34 4 1 1 rfl) (by simp [ME.kyL, Value.oneCell']) (by unfold maxLen; omega) (by omega) (by have := hfr.size; simp; omega) ?_; intro v7 w7 hown7 hgrow7 hat7; have h7f := HK7.out w7 hgrow7; obtain ⟨oa7, oc7, rfl⟩ := own_shape hown7; have e2 := (rmem_cells h7f.2.1).2.2; have e4 := h7f.2.2.2)
                obtain ⟨hf7, hr7, h7, -⟩ := h7f
                have hsz7 := hf7.size
                have hgx7 : ∀ q, (Value.slice oa7 (Gn.length + 1) oc7).ownBlock = some q → q ≠ X := fun q e z => by
                  rcases hat7 with h | h
                  · exact hGX2 (by rw [← h, e, z])
                  · rw [e] at h
                    have h1 := Option.some.inj h
                    simp at h1
                    omega
                have hgv7 : ∀ q, (Value.slice oa7 (Gn.length + 1) oc7).ownBlock = some q → ¬ G' q ∧ q < w7.heap.size := fun q e => ⟨fun z => by
                  rcases hat7 with h | h
                  · exact HGV.out q (by rw [← h]; exact e) z
                  · rw [e] at h
                    have h1 := Option.some.inj h
                    have h2 := HLT.out q z
                    simp at h1
                    omega, (hown7.lt q e).2⟩
                have hbox7 := (hf7.block X hXs (fun e => hGX2 e)).trans HBO.out
                have hfr7 : FrS G W w7 := HFR.out.next hf7 (fun b hb => (HOB.out b hb).1)
                have HWO := Lib.hid (rwithout_any w7 r bu A R x G' h7 HC.out.2.1)
                rw [HP.out] at HWO
                have HOW7 := Lib.hid hown7
                clear hown7 hgrow7 hat7 hf7 hr7 e2 e4 c0 c1 c2 k0 k1 k2 k3 k4 k5 hrow hfr HK7
                go_wp2_with fail
                go_at_call 41
                refine HWO.out.mono ?_
                rintro y w8 ⟨v8, rfl, hown8, hb8⟩
                have h8 := h7.below hb8
                obtain ⟨⟨v', hr8, -, -⟩, -, -⟩ := id h8
                obtain ⟨d0, d1, d2⟩ := rmem_cells hr8
                have hfz : w8.frozen? ⟨r, 2, none⟩ = false := by simp [World.frozen?, hr8]
                have hput8 := h8.put (P' := A ++ R) hown8 h7.lt
                have hX7 : X < w7.heap.size := by omega
                have hbox9 := (Below.heap_setCell w8 ⟨r, 2, none⟩ v8 X (fun z => hGX' (by rw [show X = r from z]; exact HGR.out))).trans ((hb8.block X hX7).trans hbox7)
                have hrow9 : (w8.setCell ⟨r, 2, none⟩ v8).ownsRow W.heap.size 34 4 (.slice oa7 (Gn.length + 1) oc7) (Gn.length + 1) (ME.kc Gn ++ ME.kyL x.key) := (FrS.set (S := fun b => b = r) w8 (b := r) rfl v8).own (own_below HOW7.out hb8) (fun q e z => (hgv7 q e).1 (by rw [z]; exact HGR.out))
                have hfr9 : FrS G W (w8.setCell ⟨r, 2, none⟩ v8) := (hfr7.then hb8).trans (FrS.set (S := G) _ (b := r) HH.out.gr _)
                have HRI9 : Hid (RpI W (w8.setCell ⟨r, 2, none⟩ v8) r bu G A R (.slice oa7 (Gn.length + 1) oc7) (Gn ++ [x.key]) X (mkE k s pv)) := Lib.hid ⟨⟨_, hput8, fun b hb => hb.elim (HGE.out b) (fun z => .inr (by have := hfr7.size; omega)), fun z => z.elim hGX' (fun z => by omega), fun q e => ⟨fun z => z.elim (hgv7 q e).1 (fun z => by have := (hgv7 q e).2; omega), hgx7 q e⟩⟩, by rw [List.length_append, ME.kc_app, ME.kc_one]; exact hrow9, hbox9, hfr9⟩
                have hnl8 : (A ++ R).length = nA - 1 := by rw [← HNA.out]; simp
                rw [hnl8] at hown8
                obtain ⟨oa8, oc8, rfl⟩ := own_shape hown8
                have HL9 : Hid (lenAt r (w8.setCell ⟨r, 2, none⟩ (.slice oa8 (nA - 1) oc8)) = nA - 1) := Lib.hid (by
                  have h9 : (w8.setCell ⟨r, 2, none⟩ (.slice oa8 (nA - 1) oc8)).heap[r]? = some (.cells #[.bool true, .int .i64 bu, .slice oa8 (nA - 1) oc8] 53 (0, 0)) := heap_setCell_same w8 r 2 _ _ (.slice oa8 (nA - 1) oc8) hr8
                  exact lenAt_eq (rmem_cells h9).2.2)
                clear hput8 hbox9 hrow9 hfr9 hnl8 hown8 h8 hr8 hb8 h7 hbox7 hfr7 hgv7 hgx7
                go_wp2
                go_roundw
                case rel =>
                  refine ⟨A, R, Gn ++ [x.key], _, by rw [HP.out], by rw [← HTS.out], rfl, HST, HRI9, Lib.hid ⟨HC.out.1.del, by have := HC.out.2.1; simp at this ⊢; omega, by have := HC.out.2.2; simp at this ⊢; omega⟩⟩
                case measure =>
                  show lenAt r _ - (p : Int).toNat < lenAt r wr - (p : Int).toNat
                  rw [HLN.out, HL9.out]
                  omega
        · have hnd := HOK.out.keys
          rw [ME.fi_mid rfl (ME.mid_keys hnd).1]
          obtain ⟨p, hp⟩ : ∃ p, A.length = p := ⟨_, rfl⟩
          obtain ⟨⟨v3, hr3, hrow3, hvG3⟩, -, -⟩ := id h3
          obtain ⟨va3, vc3, rfl⟩ := own_shape hrow3
          have hpn : (p : Int) < (n : Int) := by rw [← HN.out, ← hp]; simp; omega
          have hp0 : (0 : Int) ≤ (p : Int) := by omega
          rw [HN.out] at hr3 hrow3
          obtain ⟨g, rfl, hgl, k0, k1, k2, k3, k4, k5⟩ := kept_at hrow3 (e := e) (i := p) (by rw [← hp]; simp) (by omega)
          obtain ⟨d0, d1, d2⟩ := rmem_cells hr3
          have t5 : w3.cell? ⟨X, 5, none⟩ = some (.bool false) := nd_cell by3 rfl
          have ft5 : w3.frozen? ⟨X, 5, none⟩ = false := by simp [World.frozen?, by3]
          obtain ⟨pv, hpv⟩ : ∃ pv, e.pin = pv := ⟨_, rfl⟩
          rw [hpv] at k5
          obtain ⟨W4, hW4⟩ : ∃ W4, w3.setCell ⟨X, 5, none⟩ (.bool pv) = W4 := ⟨_, rfl⟩
          have by4 : W4.heap[X]? = some (.cells #[.int .i64 e.key.1, .int .i64 e.key.2.1, .int .i64 e.key.2.2.1, .int .i64 e.key.2.2.2, .int .i64 s, .bool pv] 55 (0, 0)) := by
            rw [← hW4]
            exact heap_setCell_same w3 X 5 _ _ (.bool pv) by3
          have hf4 : FrS (fun y => y = X) w3 W4 := by rw [← hW4]; exact FrS.set (S := fun y => y = X) w3 (b := X) rfl _
          have h4 := h3.kept hf4 (fun b hb z => hGX (by rw [← z]; exact hb))
          have hb4 : Below W.heap.size W W4 := hf4.below W HW3.out (fun y hy => by omega)
          have HWO := Lib.hid (rwithout_any W4 r bu A C e G h4 (by rw [HN.out]; exact hlen))
          rw [hp] at HWO ⊢
          have H4 := Lib.hid h4
          have HB4 := Lib.hid hb4
          have HBY := Lib.hid by4
          have HPV := Lib.hid hpv
          have HP := Lib.hid hp
          clear h4 hb4 by4 hf4 hpv hp hrow3 hvG3 h3
          go_upto_region 18 with fail
          try rw [hW4]
          clear hW4 t5 ft5 by3 hr3 k0 k1 k2 k3 k4 k5 d0 d1 d2
          go_wp2_with fail
          go_at_call 41
          refine HWO.out.mono ?_
          rintro x w5 ⟨v5, rfl, hown5, hb5⟩
          clear HWO
          have h5 := H4.out.below hb5
          obtain ⟨⟨v', hr5, -, -⟩, -, -⟩ := id h5
          obtain ⟨d0, d1, d2⟩ := rmem_cells hr5
          have hfz : w5.frozen? ⟨r, 2, none⟩ = false := by simp [World.frozen?, hr5]
          have hput5 := h5.put (P' := A ++ C) hown5 H4.out.lt
          have hrX : r ≠ X := fun z => hGX (by rw [← z]; exact HH.out.gr)
          have hXs : X < W4.heap.size := (Array.getElem?_eq_some_iff.1 HBY.out).1
          have hbx6 : (w5.setCell ⟨r, 2, none⟩ v5).heap[X]? = some (.cells #[.int .i64 e.key.1, .int .i64 e.key.2.1, .int .i64 e.key.2.2.1, .int .i64 e.key.2.2.2, .int .i64 s, .bool pv] 55 (0, 0)) := (Below.heap_setCell w5 ⟨r, 2, none⟩ _ X hrX.symm).trans ((hb5.block X hXs).trans HBY.out)
          have hfr6 : FrS G W (w5.setCell ⟨r, 2, none⟩ v5) := (FrS.of (bnext HB4.out hb5)).trans (FrS.set (S := G) _ (b := r) HH.out.gr _)
          have HRI0 : Hid (RpI W (w5.setCell ⟨r, 2, none⟩ v5) r bu G [] (A ++ C) (.slice none 0 0) [] X (mkE e.key s pv)) := Lib.hid ⟨⟨_, hput5, fun b hb => hb.imp id (fun z => Nat.le_trans HB4.out.size z.1), fun z => z.elim hGX (fun z => by omega), fun q e => by simp [Value.ownBlock] at e⟩, World.ownsRow_nil _ _ _ _, hbx6, hfr6⟩
          obtain ⟨nl, hnl⟩ : ∃ nl, (A ++ C).length = nl := ⟨_, rfl⟩
          rw [hnl] at hown5
          obtain ⟨oa5, oc5, rfl⟩ := own_shape hown5
          have HNL := Lib.hid hnl
          clear hnl hown5 hput5 h5 hr5 hbx6 hfr6 hXs
          go_upto_region 19 with fail
          obtain ⟨wv, hwv2⟩ : ∃ wv, w5.setCell ⟨r, 2, none⟩ (.slice oa5 nl oc5) = wv := ⟨_, rfl⟩
          rw [hwv2] at HRI0
          try rw [hwv2]
          clear hwv2 d0 d1 d2 hfz hb5
          obtain ⟨k, hk⟩ : ∃ k, e.key = k := ⟨_, rfl⟩
          obtain ⟨P1, hP1⟩ : ∃ P1, A ++ C = P1 := ⟨_, rfl⟩
          have hput : PP = ((ME.room bu T P1).1 ++ [mkE k s pv], (ME.room bu T P1).2, 0) := by
            rw [← HPP.out, ← hP1, ← hk, ← HPV.out, ← HTT.out]
            unfold ME.put ME.pinOf
            rw [if_neg (by omega), if_neg (by rw [HPA.out]; omega), HSA.out, ME.wo_mid hnd, ME.fnd_mid hnd, Int.add_comm]
          have HPU := Lib.hid hput
          have HCH : Hid (ME.Ok bu P1 ∧ T = ME.sm P1 + s ∧ P1.length ≤ 1000000) := Lib.hid ⟨by rw [← hP1]; exact HOK.out.del, by rw [← HTT.out, ← HSA.out, ← hP1, ME.wo_mid hnd, Int.add_comm], by rw [← hP1]; have := HN.out; simp at this ⊢; omega⟩
          have HRI : Hid (RpI W wv r bu G [] P1 (.slice none 0 0) [] X (mkE k s pv)) := by rw [← hP1, ← hk]; exact HRI0
          clear HRI0 hput hP1 hnd hk
          go_wp2_with fail
          go_loopw [9, 13, 14] (fun v9 v13 v14 wr => ∃ (A R : List En) (Gn : List K4) (vo : Value), v14 = .int .i64 (A.length : Int) ∧ v9 = .int .i64 (ME.sm (A ++ R) + s) ∧ v13 = vo ∧ Hid (ME.room bu T P1 = (A ++ (ME.room bu (ME.sm (A ++ R) + s) R).1, Gn ++ (ME.room bu (ME.sm (A ++ R) + s) R).2)) ∧ Hid (RpI W wr r bu G A R vo Gn X (mkE k s pv)) ∧ Hid (ME.Ok bu (A ++ R) ∧ (A ++ R).length ≤ 1000000 ∧ Gn.length + R.length ≤ 1000000)) (fun _ _ v wr => lenAt r wr - (intOf v).toNat)
          case atStart => exact ⟨[], P1, [], _, rfl, by rw [HCH.out.2.1, List.nil_append], rfl, Lib.hid (by rw [HCH.out.2.1]; rfl), HRI, Lib.hid ⟨HCH.out.1, HCH.out.2.2, by have := HCH.out.2.2; simpa using this⟩⟩
          case round =>
            clear HRI
            obtain ⟨A, R, Gn, vo, rfl, rfl, rfl, HRm, HRw, HC⟩ := hrel
            have hroom := HRm.out
            have hsz := HC.out.1.sz
            have hsm0 := ME.sm_nonneg hsz
            have hsm1 := HC.out.1.sum
            have hbb := HC.out.1.b1
            by_cases hstop : ME.sm (A ++ R) + s ≤ bu ∨ R = []
            · skip
              rw [ME.room_stop hstop, List.append_nil] at hroom
              obtain ⟨va, nA, vc, hE⟩ := rp_end HRw.out HH.out.gr
              have hnl : nA ≤ 1000000 := by rw [← hE.len]; exact HC.out.2.1
              obtain ⟨c0, c1, c2⟩ := rmem_cells hE.mem
              have hlA : (A.length : Int) ≤ (nA : Int) := by rw [← hE.len, List.length_append]; omega
              have hcond : ¬ ((A.length : Int) < (nA : Int)) ∨ ¬ (bu < ME.sm (A ++ R) + s) := by
                rcases hstop with h | h
                · right; omega
                · left; rw [← hE.len, h, List.append_nil]; omega
              have HSA := Lib.hid hE.sa
              have HSC := Lib.hid hE.sc
              have HRW := Lib.hid hE.row
              have HST := Lib.hid hE.st
              have HEND := Lib.hid hE.fin
              have HROOM := Lib.hid hroom
              rcases hcond with hcond | hcond
              · have hc1 : decide ((A.length : Int) < (nA : Int)) = false := decide_eq_false hcond
                clear hroom hstop hE
                go_upto_region 28 with fail
                clear hcond c0 c1 c2
                refine wp_region_last #[{ dst := some 165, op := Op.move (Operand.tmp 0), type := 25, pos := "ref.go:80", after := #[], guard := none }, { dst := some 166, op := Op.move (Operand.tmp 0), type := 25, pos := "ref.go:80", after := #[], guard := none }, { dst := some 167, op := Op.nilCheck (Operand.tmp 166), type := 0, pos := "ref.go:80", after := #[{ on := 1, ground := Ground.data }], guard := none }, { dst := some 168, op := Op.fieldAddr 53 (Operand.tmp 167) 2, type := 0, pos := "ref.go:80", after := #[{ on := 2, ground := Ground.data }], guard := none }, { dst := some 169, op := Op.load 51 (Operand.tmp 168), type := 51, pos := "ref.go:80", after := #[{ on := 3, ground := Ground.data }], guard := none }, { dst := some 170, op := Op.load 55 (Operand.tmp 11), type := 55, pos := "ref.go:80", after := #[], guard := none }, { dst := some 171, op := Op.buildSlice 51 1 #[(0, Operand.tmp 170)], type := 51, pos := "ref.go:80", after := #[{ on := 5, ground := Ground.data }], guard := none }, { dst := some 172, op := Op.call { callee := Callee.builtin Builtin.append, args := #[Operand.tmp 169, Operand.tmp 171], argTypes := #[51, 51] }, type := 51, pos := "ref.go:80", after := #[{ on := 4, ground := Ground.data }, { on := 6, ground := Ground.data }], guard := none }, { dst := some 173, op := Op.nilCheck (Operand.tmp 165), type := 0, pos := "ref.go:80", after := #[{ on := 0, ground := Ground.data }, { on := 0, ground := Ground.phase }, { on := 1, ground := Ground.phase }, { on := 2, ground := Ground.phase }, { on := 3, ground := Ground.phase }, { on := 4, ground := Ground.phase }, { on := 5, ground := Ground.phase }, { on := 6, ground := Ground.phase }, { on := 7, ground := Ground.phase }], guard := none }, { dst := some 174, op := Op.fieldAddr 53 (Operand.tmp 173) 2, type := 0, pos := "ref.go:80", after := #[{ on := 8, ground := Ground.data }, { on := 0, ground := Ground.phase }, { on := 1, ground := Ground.phase }, { on := 2, ground := Ground.phase }, { on := 3, ground := Ground.phase }, { on := 4, ground := Ground.phase }, { on := 5, ground := Ground.phase }, { on := 6, ground := Ground.phase }, { on := 7, ground := Ground.phase }], guard := none }] { dst := none, op := Op.store 51 (Operand.tmp 174) (Operand.tmp 172), type := 0, pos := "ref.go:80", after := #[{ on := 9, ground := Ground.data }, { on := 7, ground := Ground.data }, { on := 7, ground := Ground.chain }, { on := 0, ground := Ground.phase }, { on := 1, ground := Ground.phase }, { on := 2, ground := Ground.phase }, { on := 3, ground := Ground.phase }, { on := 4, ground := Ground.phase }, { on := 5, ground := Ground.phase }, { on := 6, ground := Ground.phase }, { on := 7, ground := Ground.phase }], guard := none } rfl (by kernel_rfl) (by kernel_rfl) (fun w' => w'.cell? ⟨r, 2, none⟩ = some (.slice va nA vc) ∧ w'.cell? ⟨X, 0, none⟩ = some (.int .i64 k.1) ∧ w'.cell? ⟨X, 1, none⟩ = some (.int .i64 k.2.1) ∧ w'.cell? ⟨X, 2, none⟩ = some (.int .i64 k.2.2.1) ∧ w'.cell? ⟨X, 3, none⟩ = some (.int .i64 k.2.2.2) ∧ w'.cell? ⟨X, 4, none⟩ = some (.int .i64 s) ∧ w'.cell? ⟨X, 5, none⟩ = some (.bool pv)) ?_ (fun hHeld => ?_)
                · first | exact hS1 | exact HSC.out | exact HSA.out
                refine wpAnyH_take (i := 0) (oi := { dst := some 165, op := Op.move (Operand.tmp 0), type := 25, pos := "ref.go:80", after := #[], guard := none }) (v := ?_) rfl (by kernel_rfl) (by kernel_rfl) (by kernel_rfl) (fun _ _ _ h => h) (Or.inl ⟨by rfl, ?_⟩) (by assumption) ?_
                rotate_left
                · ((intro w hSw; (try dsimp only at hSw); go_simp; (try rw [if_neg (by omega)])); try with_reducible rfl)
                (try simp only [Act.put, List.setIfInBounds_toArray, List.set_cons_zero, List.set_cons_succ])
                refine wpAnyH_take (i := 1) (oi := { dst := some 166, op := Op.move (Operand.tmp 0), type := 25, pos := "ref.go:80", after := #[], guard := none }) (v := ?_) rfl (by kernel_rfl) (by kernel_rfl) (by kernel_rfl) (fun _ _ _ h => h) (Or.inl ⟨by rfl, ?_⟩) (by assumption) ?_
                rotate_left
                · ((intro w hSw; (try dsimp only at hSw); go_simp; (try rw [if_neg (by omega)])); try with_reducible rfl)
                (try simp only [Act.put, List.setIfInBounds_toArray, List.set_cons_zero, List.set_cons_succ])
                refine wpAnyH_take (i := 2) (oi := { dst := some 167, op := Op.nilCheck (Operand.tmp 166), type := 0, pos := "ref.go:80", after := #[{ on := 1, ground := Ground.data }], guard := none }) (v := ?_) rfl (by kernel_rfl) (by kernel_rfl) (by kernel_rfl) (fun _ _ _ h => h) (Or.inl ⟨by rfl, ?_⟩) (by assumption) ?_
                rotate_left
                · ((intro w hSw; (try dsimp only at hSw); go_simp; (try rw [if_neg (by omega)])); try with_reducible rfl)
                (try simp only [Act.put, List.setIfInBounds_toArray, List.set_cons_zero, List.set_cons_succ])
                refine wpAnyH_take (i := 3) (oi := { dst := some 168, op := Op.fieldAddr 53 (Operand.tmp 167) 2, type := 0, pos := "ref.go:80", after := #[{ on := 2, ground := Ground.data }], guard := none }) (v := ?_) rfl (by kernel_rfl) (by kernel_rfl) (by kernel_rfl) (fun _ _ _ h => h) (Or.inl ⟨by rfl, ?_⟩) (by assumption) ?_
                rotate_left
                · ((intro w hSw; (try dsimp only at hSw); go_simp; (try rw [if_neg (by omega)])); try with_reducible rfl)
                (try simp only [Act.put, List.setIfInBounds_toArray, List.set_cons_zero, List.set_cons_succ])
                refine wpAnyH_take (i := 4) (oi := { dst := some 169, op := Op.load 51 (Operand.tmp 168), type := 51, pos := "ref.go:80", after := #[{ on := 3, ground := Ground.data }], guard := none }) (v := ?_) rfl (by kernel_rfl) (by kernel_rfl) (by kernel_rfl) (fun _ _ _ h => h) (Or.inl ⟨by rfl, ?_⟩) (by assumption) ?_
                rotate_left
                · ((intro w hSw; (try dsimp only at hSw); go_simp; (try rw [if_neg (by omega)])); try with_reducible rfl)
                (try simp only [Act.put, List.setIfInBounds_toArray, List.set_cons_zero, List.set_cons_succ])
                refine wpAnyH_take (i := 5) (oi := { dst := some 170, op := Op.load 55 (Operand.tmp 11), type := 55, pos := "ref.go:80", after := #[], guard := none }) (v := ?_) rfl (by kernel_rfl) (by kernel_rfl) (by kernel_rfl) (fun _ _ _ h => h) (Or.inl ⟨by rfl, ?_⟩) (by assumption) ?_
                rotate_left
                · ((intro w hSw; (try dsimp only at hSw); go_simp; (try rw [if_neg (by omega)])); try with_reducible rfl)
                (try simp only [Act.put, List.setIfInBounds_toArray, List.set_cons_zero, List.set_cons_succ])
                refine wpAnyH_ready (rs := [6]) (by kernel_rfl) (by simp) ?_
                refine AllReadyH.cons (o := { dst := some 171, op := Op.buildSlice 51 1 #[(0, Operand.tmp 170)], type := 51, pos := "ref.go:80", after := #[{ on := 5, ground := Ground.data }], guard := none }) rfl (fun K hK => ?_) AllReadyH.nil
                go_simp
                refine hK.out _ _ ?_ (fun hHeld => ?_)
                · first | exact hS1 | exact HSC.out | exact HSA.out
                clear hK K
                (try simp only [Act.put, List.setIfInBounds_toArray, List.set_cons_zero, List.set_cons_succ])
                refine wpAnyH_ready (rs := [7]) (by kernel_rfl) (by simp) ?_
                refine AllReadyH.cons (o := { dst := some 172, op := Op.call { callee := Callee.builtin Builtin.append, args := #[Operand.tmp 169, Operand.tmp 171], argTypes := #[51, 51] }, type := 51, pos := "ref.go:80", after := #[{ on := 4, ground := Ground.data }, { on := 6, ground := Ground.data }], guard := none }) rfl (fun K hK => ?_) AllReadyH.nil
                (refine step_appN (by rfl) _ _ _ (by rfl) 0 55 i1 _ 6 48 Try.underlying51 hj0 hj1 hj2 hj3 rfl (by omega) (.slice va nA vc) nA _ (by rfl) HRW.out (.slice (some ⟨wr.heap.size, 0, none⟩) 1 1) 1 (ME.kpL (mkE k s pv)) (by rfl) (srcN_new wr.drew (ME.kpL (mkE k s pv)) 55 6 1 1 rfl) (by simp [ME.kpL, Value.oneCell']) (by unfold maxLen; omega) (by omega) (Nat.zero_le _) ?_; intro v6 w6 hown6 hg6 hat6; have HS6 := Lib.hid (HST.out w6 hg6); have hS1 := HS6.out.1)
                refine hK.out _ _ ?_ (fun hHeld => ?_)
                · first | exact hS1 | exact HSC.out | exact HSA.out
                clear hK K
                (try simp only [Act.put, List.setIfInBounds_toArray, List.set_cons_zero, List.set_cons_succ])
                refine wpAnyH_take (i := 8) (oi := { dst := some 173, op := Op.nilCheck (Operand.tmp 165), type := 0, pos := "ref.go:80", after := #[{ on := 0, ground := Ground.data }, { on := 0, ground := Ground.phase }, { on := 1, ground := Ground.phase }, { on := 2, ground := Ground.phase }, { on := 3, ground := Ground.phase }, { on := 4, ground := Ground.phase }, { on := 5, ground := Ground.phase }, { on := 6, ground := Ground.phase }, { on := 7, ground := Ground.phase }], guard := none }) (v := ?_) rfl (by kernel_rfl) (by kernel_rfl) (by kernel_rfl) (fun _ _ _ h => h) (Or.inl ⟨by rfl, ?_⟩) (by assumption) ?_
                rotate_left
                · ((intro w hSw; (try dsimp only at hSw); go_simp; (try rw [if_neg (by omega)])); try with_reducible rfl)
                (try simp only [Act.put, List.setIfInBounds_toArray, List.set_cons_zero, List.set_cons_succ])
                refine wpAnyH_take (i := 9) (oi := { dst := some 174, op := Op.fieldAddr 53 (Operand.tmp 173) 2, type := 0, pos := "ref.go:80", after := #[{ on := 8, ground := Ground.data }, { on := 0, ground := Ground.phase }, { on := 1, ground := Ground.phase }, { on := 2, ground := Ground.phase }, { on := 3, ground := Ground.phase }, { on := 4, ground := Ground.phase }, { on := 5, ground := Ground.phase }, { on := 6, ground := Ground.phase }, { on := 7, ground := Ground.phase }], guard := none }) (v := ?_) rfl (by kernel_rfl) (by kernel_rfl) (by kernel_rfl) (fun _ _ _ h => h) (Or.inl ⟨by rfl, ?_⟩) (by assumption) ?_
                rotate_left
                · ((intro w hSw; (try dsimp only at hSw); go_simp; (try rw [if_neg (by omega)])); try with_reducible rfl)
                (try simp only [Act.put, List.setIfInBounds_toArray, List.set_cons_zero, List.set_cons_succ])
                refine wpAnyH_done (by kernel_rfl) ?_ _
                show Oper.wp _ _ _ _ _ _
                have hnl2 := hnl
                obtain ⟨-, hr6⟩ := HS6.out
                obtain ⟨d0, d1, d2⟩ := rmem_cells hr6
                have hfz : w6.frozen? ⟨r, 2, none⟩ = false := by simp [World.frozen?, hr6]
                have HE := Lib.hid (HEND.out w6 v6 hg6 hown6 hat6)
                obtain ⟨oa6, oc6, rfl⟩ := own_shape hown6
                clear hown6 hg6 hat6 hS1 hr6 HS6 HEND HST HSA HSC HRW
                go_wp2
                go_ret2
                rw [HPU.out, HROOM.out]
                have q1 := HE.out.1
                rw [hB] at q1
                exact ⟨_, rfl, q1, HE.out.2⟩
              · have hc1 : decide (bu < ME.sm (A ++ R) + s) = false := decide_eq_false hcond
                by_cases hq : (A.length : Int) < (nA : Int)
                · skip
                  clear hroom hstop hE
                  go_upto_region 28 with fail
                  clear hcond c0 c1 c2
                  refine wp_region_last #[{ dst := some 165, op := Op.move (Operand.tmp 0), type := 25, pos := "ref.go:80", after := #[], guard := none }, { dst := some 166, op := Op.move (Operand.tmp 0), type := 25, pos := "ref.go:80", after := #[], guard := none }, { dst := some 167, op := Op.nilCheck (Operand.tmp 166), type := 0, pos := "ref.go:80", after := #[{ on := 1, ground := Ground.data }], guard := none }, { dst := some 168, op := Op.fieldAddr 53 (Operand.tmp 167) 2, type := 0, pos := "ref.go:80", after := #[{ on := 2, ground := Ground.data }], guard := none }, { dst := some 169, op := Op.load 51 (Operand.tmp 168), type := 51, pos := "ref.go:80", after := #[{ on := 3, ground := Ground.data }], guard := none }, { dst := some 170, op := Op.load 55 (Operand.tmp 11), type := 55, pos := "ref.go:80", after := #[], guard := none }, { dst := some 171, op := Op.buildSlice 51 1 #[(0, Operand.tmp 170)], type := 51, pos := "ref.go:80", after := #[{ on := 5, ground := Ground.data }], guard := none }, { dst := some 172, op := Op.call { callee := Callee.builtin Builtin.append, args := #[Operand.tmp 169, Operand.tmp 171], argTypes := #[51, 51] }, type := 51, pos := "ref.go:80", after := #[{ on := 4, ground := Ground.data }, { on := 6, ground := Ground.data }], guard := none }, { dst := some 173, op := Op.nilCheck (Operand.tmp 165), type := 0, pos := "ref.go:80", after := #[{ on := 0, ground := Ground.data }, { on := 0, ground := Ground.phase }, { on := 1, ground := Ground.phase }, { on := 2, ground := Ground.phase }, { on := 3, ground := Ground.phase }, { on := 4, ground := Ground.phase }, { on := 5, ground := Ground.phase }, { on := 6, ground := Ground.phase }, { on := 7, ground := Ground.phase }], guard := none }, { dst := some 174, op := Op.fieldAddr 53 (Operand.tmp 173) 2, type := 0, pos := "ref.go:80", after := #[{ on := 8, ground := Ground.data }, { on := 0, ground := Ground.phase }, { on := 1, ground := Ground.phase }, { on := 2, ground := Ground.phase }, { on := 3, ground := Ground.phase }, { on := 4, ground := Ground.phase }, { on := 5, ground := Ground.phase }, { on := 6, ground := Ground.phase }, { on := 7, ground := Ground.phase }], guard := none }] { dst := none, op := Op.store 51 (Operand.tmp 174) (Operand.tmp 172), type := 0, pos := "ref.go:80", after := #[{ on := 9, ground := Ground.data }, { on := 7, ground := Ground.data }, { on := 7, ground := Ground.chain }, { on := 0, ground := Ground.phase }, { on := 1, ground := Ground.phase }, { on := 2, ground := Ground.phase }, { on := 3, ground := Ground.phase }, { on := 4, ground := Ground.phase }, { on := 5, ground := Ground.phase }, { on := 6, ground := Ground.phase }, { on := 7, ground := Ground.phase }], guard := none } rfl (by kernel_rfl) (by kernel_rfl) (fun w' => w'.cell? ⟨r, 2, none⟩ = some (.slice va nA vc) ∧ w'.cell? ⟨X, 0, none⟩ = some (.int .i64 k.1) ∧ w'.cell? ⟨X, 1, none⟩ = some (.int .i64 k.2.1) ∧ w'.cell? ⟨X, 2, none⟩ = some (.int .i64 k.2.2.1) ∧ w'.cell? ⟨X, 3, none⟩ = some (.int .i64 k.2.2.2) ∧ w'.cell? ⟨X, 4, none⟩ = some (.int .i64 s) ∧ w'.cell? ⟨X, 5, none⟩ = some (.bool pv)) ?_ (fun hHeld => ?_)
                  · first | exact hS1 | exact HSC.out | exact HSA.out
                  refine wpAnyH_take (i := 0) (oi := { dst := some 165, op := Op.move (Operand.tmp 0), type := 25, pos := "ref.go:80", after := #[], guard := none }) (v := ?_) rfl (by kernel_rfl) (by kernel_rfl) (by kernel_rfl) (fun _ _ _ h => h) (Or.inl ⟨by rfl, ?_⟩) (by assumption) ?_
                  rotate_left
                  · ((intro w hSw; (try dsimp only at hSw); go_simp; (try rw [if_neg (by omega)])); try with_reducible rfl)
                  (try simp only [Act.put, List.setIfInBounds_toArray, List.set_cons_zero, List.set_cons_succ])
                  refine wpAnyH_take (i := 1) (oi := { dst := some 166, op := Op.move (Operand.tmp 0), type := 25, pos := "ref.go:80", after := #[], guard := none }) (v := ?_) rfl (by kernel_rfl) (by kernel_rfl) (by kernel_rfl) (fun _ _ _ h => h) (Or.inl ⟨by rfl, ?_⟩) (by assumption) ?_
                  rotate_left
                  · ((intro w hSw; (try dsimp only at hSw); go_simp; (try rw [if_neg (by omega)])); try with_reducible rfl)
                  (try simp only [Act.put, List.setIfInBounds_toArray, List.set_cons_zero, List.set_cons_succ])
                  refine wpAnyH_take (i := 2) (oi := { dst := some 167, op := Op.nilCheck (Operand.tmp 166), type := 0, pos := "ref.go:80", after := #[{ on := 1, ground := Ground.data }], guard := none }) (v := ?_) rfl (by kernel_rfl) (by kernel_rfl) (by kernel_rfl) (fun _ _ _ h => h) (Or.inl ⟨by rfl, ?_⟩) (by assumption) ?_
                  rotate_left
                  · ((intro w hSw; (try dsimp only at hSw); go_simp; (try rw [if_neg (by omega)])); try with_reducible rfl)
                  (try simp only [Act.put, List.setIfInBounds_toArray, List.set_cons_zero, List.set_cons_succ])
                  refine wpAnyH_take (i := 3) (oi := { dst := some 168, op := Op.fieldAddr 53 (Operand.tmp 167) 2, type := 0, pos := "ref.go:80", after := #[{ on := 2, ground := Ground.data }], guard := none }) (v := ?_) rfl (by kernel_rfl) (by kernel_rfl) (by kernel_rfl) (fun _ _ _ h => h) (Or.inl ⟨by rfl, ?_⟩) (by assumption) ?_
                  rotate_left
                  · ((intro w hSw; (try dsimp only at hSw); go_simp; (try rw [if_neg (by omega)])); try with_reducible rfl)
                  (try simp only [Act.put, List.setIfInBounds_toArray, List.set_cons_zero, List.set_cons_succ])
                  refine wpAnyH_take (i := 4) (oi := { dst := some 169, op := Op.load 51 (Operand.tmp 168), type := 51, pos := "ref.go:80", after := #[{ on := 3, ground := Ground.data }], guard := none }) (v := ?_) rfl (by kernel_rfl) (by kernel_rfl) (by kernel_rfl) (fun _ _ _ h => h) (Or.inl ⟨by rfl, ?_⟩) (by assumption) ?_
                  rotate_left
                  · ((intro w hSw; (try dsimp only at hSw); go_simp; (try rw [if_neg (by omega)])); try with_reducible rfl)
                  (try simp only [Act.put, List.setIfInBounds_toArray, List.set_cons_zero, List.set_cons_succ])
                  refine wpAnyH_take (i := 5) (oi := { dst := some 170, op := Op.load 55 (Operand.tmp 11), type := 55, pos := "ref.go:80", after := #[], guard := none }) (v := ?_) rfl (by kernel_rfl) (by kernel_rfl) (by kernel_rfl) (fun _ _ _ h => h) (Or.inl ⟨by rfl, ?_⟩) (by assumption) ?_
                  rotate_left
                  · ((intro w hSw; (try dsimp only at hSw); go_simp; (try rw [if_neg (by omega)])); try with_reducible rfl)
                  (try simp only [Act.put, List.setIfInBounds_toArray, List.set_cons_zero, List.set_cons_succ])
                  refine wpAnyH_ready (rs := [6]) (by kernel_rfl) (by simp) ?_
                  refine AllReadyH.cons (o := { dst := some 171, op := Op.buildSlice 51 1 #[(0, Operand.tmp 170)], type := 51, pos := "ref.go:80", after := #[{ on := 5, ground := Ground.data }], guard := none }) rfl (fun K hK => ?_) AllReadyH.nil
                  go_simp
                  refine hK.out _ _ ?_ (fun hHeld => ?_)
                  · first | exact hS1 | exact HSC.out | exact HSA.out
                  clear hK K
                  (try simp only [Act.put, List.setIfInBounds_toArray, List.set_cons_zero, List.set_cons_succ])
                  refine wpAnyH_ready (rs := [7]) (by kernel_rfl) (by simp) ?_
                  refine AllReadyH.cons (o := { dst := some 172, op := Op.call { callee := Callee.builtin Builtin.append, args := #[Operand.tmp 169, Operand.tmp 171], argTypes := #[51, 51] }, type := 51, pos := "ref.go:80", after := #[{ on := 4, ground := Ground.data }, { on := 6, ground := Ground.data }], guard := none }) rfl (fun K hK => ?_) AllReadyH.nil
                  (refine step_appN (by rfl) _ _ _ (by rfl) 0 55 i1 _ 6 48 Try.underlying51 hj0 hj1 hj2 hj3 rfl (by omega) (.slice va nA vc) nA _ (by rfl) HRW.out (.slice (some ⟨wr.heap.size, 0, none⟩) 1 1) 1 (ME.kpL (mkE k s pv)) (by rfl) (srcN_new wr.drew (ME.kpL (mkE k s pv)) 55 6 1 1 rfl) (by simp [ME.kpL, Value.oneCell']) (by unfold maxLen; omega) (by omega) (Nat.zero_le _) ?_; intro v6 w6 hown6 hg6 hat6; have HS6 := Lib.hid (HST.out w6 hg6); have hS1 := HS6.out.1)
                  refine hK.out _ _ ?_ (fun hHeld => ?_)
                  · first | exact hS1 | exact HSC.out | exact HSA.out
                  clear hK K
                  (try simp only [Act.put, List.setIfInBounds_toArray, List.set_cons_zero, List.set_cons_succ])
                  refine wpAnyH_take (i := 8) (oi := { dst := some 173, op := Op.nilCheck (Operand.tmp 165), type := 0, pos := "ref.go:80", after := #[{ on := 0, ground := Ground.data }, { on := 0, ground := Ground.phase }, { on := 1, ground := Ground.phase }, { on := 2, ground := Ground.phase }, { on := 3, ground := Ground.phase }, { on := 4, ground := Ground.phase }, { on := 5, ground := Ground.phase }, { on := 6, ground := Ground.phase }, { on := 7, ground := Ground.phase }], guard := none }) (v := ?_) rfl (by kernel_rfl) (by kernel_rfl) (by kernel_rfl) (fun _ _ _ h => h) (Or.inl ⟨by rfl, ?_⟩) (by assumption) ?_
                  rotate_left
                  · ((intro w hSw; (try dsimp only at hSw); go_simp; (try rw [if_neg (by omega)])); try with_reducible rfl)
                  (try simp only [Act.put, List.setIfInBounds_toArray, List.set_cons_zero, List.set_cons_succ])
                  refine wpAnyH_take (i := 9) (oi := { dst := some 174, op := Op.fieldAddr 53 (Operand.tmp 173) 2, type := 0, pos := "ref.go:80", after := #[{ on := 8, ground := Ground.data }, { on := 0, ground := Ground.phase }, { on := 1, ground := Ground.phase }, { on := 2, ground := Ground.phase }, { on := 3, ground := Ground.phase }, { on := 4, ground := Ground.phase }, { on := 5, ground := Ground.phase }, { on := 6, ground := Ground.phase }, { on := 7, ground := Ground.phase }], guard := none }) (v := ?_) rfl (by kernel_rfl) (by kernel_rfl) (by kernel_rfl) (fun _ _ _ h => h) (Or.inl ⟨by rfl, ?_⟩) (by assumption) ?_
                  rotate_left
                  · ((intro w hSw; (try dsimp only at hSw); go_simp; (try rw [if_neg (by omega)])); try with_reducible rfl)
                  (try simp only [Act.put, List.setIfInBounds_toArray, List.set_cons_zero, List.set_cons_succ])
                  refine wpAnyH_done (by kernel_rfl) ?_ _
                  show Oper.wp _ _ _ _ _ _
                  have hnl2 := hnl
                  obtain ⟨-, hr6⟩ := HS6.out
                  obtain ⟨d0, d1, d2⟩ := rmem_cells hr6
                  have hfz : w6.frozen? ⟨r, 2, none⟩ = false := by simp [World.frozen?, hr6]
                  have HE := Lib.hid (HEND.out w6 v6 hg6 hown6 hat6)
                  obtain ⟨oa6, oc6, rfl⟩ := own_shape hown6
                  clear hown6 hg6 hat6 hS1 hr6 HS6 HEND HST HSA HSC HRW
                  go_wp2
                  go_ret2
                  rw [HPU.out, HROOM.out]
                  have q1 := HE.out.1
                  rw [hB] at q1
                  exact ⟨_, rfl, q1, HE.out.2⟩
                · skip
                  clear hroom hstop hE
                  go_upto_region 28 with fail
                  clear hcond c0 c1 c2
                  refine wp_region_last #[{ dst := some 165, op := Op.move (Operand.tmp 0), type := 25, pos := "ref.go:80", after := #[], guard := none }, { dst := some 166, op := Op.move (Operand.tmp 0), type := 25, pos := "ref.go:80", after := #[], guard := none }, { dst := some 167, op := Op.nilCheck (Operand.tmp 166), type := 0, pos := "ref.go:80", after := #[{ on := 1, ground := Ground.data }], guard := none }, { dst := some 168, op := Op.fieldAddr 53 (Operand.tmp 167) 2, type := 0, pos := "ref.go:80", after := #[{ on := 2, ground := Ground.data }], guard := none }, { dst := some 169, op := Op.load 51 (Operand.tmp 168), type := 51, pos := "ref.go:80", after := #[{ on := 3, ground := Ground.data }], guard := none }, { dst := some 170, op := Op.load 55 (Operand.tmp 11), type := 55, pos := "ref.go:80", after := #[], guard := none }, { dst := some 171, op := Op.buildSlice 51 1 #[(0, Operand.tmp 170)], type := 51, pos := "ref.go:80", after := #[{ on := 5, ground := Ground.data }], guard := none }, { dst := some 172, op := Op.call { callee := Callee.builtin Builtin.append, args := #[Operand.tmp 169, Operand.tmp 171], argTypes := #[51, 51] }, type := 51, pos := "ref.go:80", after := #[{ on := 4, ground := Ground.data }, { on := 6, ground := Ground.data }], guard := none }, { dst := some 173, op := Op.nilCheck (Operand.tmp 165), type := 0, pos := "ref.go:80", after := #[{ on := 0, ground := Ground.data }, { on := 0, ground := Ground.phase }, { on := 1, ground := Ground.phase }, { on := 2, ground := Ground.phase }, { on := 3, ground := Ground.phase }, { on := 4, ground := Ground.phase }, { on := 5, ground := Ground.phase }, { on := 6, ground := Ground.phase }, { on := 7, ground := Ground.phase }], guard := none }, { dst := some 174, op := Op.fieldAddr 53 (Operand.tmp 173) 2, type := 0, pos := "ref.go:80", after := #[{ on := 8, ground := Ground.data }, { on := 0, ground := Ground.phase }, { on := 1, ground := Ground.phase }, { on := 2, ground := Ground.phase }, { on := 3, ground := Ground.phase }, { on := 4, ground := Ground.phase }, { on := 5, ground := Ground.phase }, { on := 6, ground := Ground.phase }, { on := 7, ground := Ground.phase }], guard := none }] { dst := none, op := Op.store 51 (Operand.tmp 174) (Operand.tmp 172), type := 0, pos := "ref.go:80", after := #[{ on := 9, ground := Ground.data }, { on := 7, ground := Ground.data }, { on := 7, ground := Ground.chain }, { on := 0, ground := Ground.phase }, { on := 1, ground := Ground.phase }, { on := 2, ground := Ground.phase }, { on := 3, ground := Ground.phase }, { on := 4, ground := Ground.phase }, { on := 5, ground := Ground.phase }, { on := 6, ground := Ground.phase }, { on := 7, ground := Ground.phase }], guard := none } rfl (by kernel_rfl) (by kernel_rfl) (fun w' => w'.cell? ⟨r, 2, none⟩ = some (.slice va nA vc) ∧ w'.cell? ⟨X, 0, none⟩ = some (.int .i64 k.1) ∧ w'.cell? ⟨X, 1, none⟩ = some (.int .i64 k.2.1) ∧ w'.cell? ⟨X, 2, none⟩ = some (.int .i64 k.2.2.1) ∧ w'.cell? ⟨X, 3, none⟩ = some (.int .i64 k.2.2.2) ∧ w'.cell? ⟨X, 4, none⟩ = some (.int .i64 s) ∧ w'.cell? ⟨X, 5, none⟩ = some (.bool pv)) ?_ (fun hHeld => ?_)
                  · first | exact hS1 | exact HSC.out | exact HSA.out
                  refine wpAnyH_take (i := 0) (oi := { dst := some 165, op := Op.move (Operand.tmp 0), type := 25, pos := "ref.go:80", after := #[], guard := none }) (v := ?_) rfl (by kernel_rfl) (by kernel_rfl) (by kernel_rfl) (fun _ _ _ h => h) (Or.inl ⟨by rfl, ?_⟩) (by assumption) ?_
                  rotate_left
                  · ((intro w hSw; (try dsimp only at hSw); go_simp; (try rw [if_neg (by omega)])); try with_reducible rfl)
                  (try simp only [Act.put, List.setIfInBounds_toArray, List.set_cons_zero, List.set_cons_succ])
                  refine wpAnyH_take (i := 1) (oi := { dst := some 166, op := Op.move (Operand.tmp 0), type := 25, pos := "ref.go:80", after := #[], guard := none }) (v := ?_) rfl (by kernel_rfl) (by kernel_rfl) (by kernel_rfl) (fun _ _ _ h => h) (Or.inl ⟨by rfl, ?_⟩) (by assumption) ?_
                  rotate_left
                  · ((intro w hSw; (try dsimp only at hSw); go_simp; (try rw [if_neg (by omega)])); try with_reducible rfl)
                  (try simp only [Act.put, List.setIfInBounds_toArray, List.set_cons_zero, List.set_cons_succ])
                  refine wpAnyH_take (i := 2) (oi := { dst := some 167, op := Op.nilCheck (Operand.tmp 166), type := 0, pos := "ref.go:80", after := #[{ on := 1, ground := Ground.data }], guard := none }) (v := ?_) rfl (by kernel_rfl) (by kernel_rfl) (by kernel_rfl) (fun _ _ _ h => h) (Or.inl ⟨by rfl, ?_⟩) (by assumption) ?_
                  rotate_left
                  · ((intro w hSw; (try dsimp only at hSw); go_simp; (try rw [if_neg (by omega)])); try with_reducible rfl)
                  (try simp only [Act.put, List.setIfInBounds_toArray, List.set_cons_zero, List.set_cons_succ])
                  refine wpAnyH_take (i := 3) (oi := { dst := some 168, op := Op.fieldAddr 53 (Operand.tmp 167) 2, type := 0, pos := "ref.go:80", after := #[{ on := 2, ground := Ground.data }], guard := none }) (v := ?_) rfl (by kernel_rfl) (by kernel_rfl) (by kernel_rfl) (fun _ _ _ h => h) (Or.inl ⟨by rfl, ?_⟩) (by assumption) ?_
                  rotate_left
                  · ((intro w hSw; (try dsimp only at hSw); go_simp; (try rw [if_neg (by omega)])); try with_reducible rfl)
                  (try simp only [Act.put, List.setIfInBounds_toArray, List.set_cons_zero, List.set_cons_succ])
                  refine wpAnyH_take (i := 4) (oi := { dst := some 169, op := Op.load 51 (Operand.tmp 168), type := 51, pos := "ref.go:80", after := #[{ on := 3, ground := Ground.data }], guard := none }) (v := ?_) rfl (by kernel_rfl) (by kernel_rfl) (by kernel_rfl) (fun _ _ _ h => h) (Or.inl ⟨by rfl, ?_⟩) (by assumption) ?_
                  rotate_left
                  · ((intro w hSw; (try dsimp only at hSw); go_simp; (try rw [if_neg (by omega)])); try with_reducible rfl)
                  (try simp only [Act.put, List.setIfInBounds_toArray, List.set_cons_zero, List.set_cons_succ])
                  refine wpAnyH_take (i := 5) (oi := { dst := some 170, op := Op.load 55 (Operand.tmp 11), type := 55, pos := "ref.go:80", after := #[], guard := none }) (v := ?_) rfl (by kernel_rfl) (by kernel_rfl) (by kernel_rfl) (fun _ _ _ h => h) (Or.inl ⟨by rfl, ?_⟩) (by assumption) ?_
                  rotate_left
                  · ((intro w hSw; (try dsimp only at hSw); go_simp; (try rw [if_neg (by omega)])); try with_reducible rfl)
                  (try simp only [Act.put, List.setIfInBounds_toArray, List.set_cons_zero, List.set_cons_succ])
                  refine wpAnyH_ready (rs := [6]) (by kernel_rfl) (by simp) ?_
                  refine AllReadyH.cons (o := { dst := some 171, op := Op.buildSlice 51 1 #[(0, Operand.tmp 170)], type := 51, pos := "ref.go:80", after := #[{ on := 5, ground := Ground.data }], guard := none }) rfl (fun K hK => ?_) AllReadyH.nil
                  go_simp
                  refine hK.out _ _ ?_ (fun hHeld => ?_)
                  · first | exact hS1 | exact HSC.out | exact HSA.out
                  clear hK K
                  (try simp only [Act.put, List.setIfInBounds_toArray, List.set_cons_zero, List.set_cons_succ])
                  refine wpAnyH_ready (rs := [7]) (by kernel_rfl) (by simp) ?_
                  refine AllReadyH.cons (o := { dst := some 172, op := Op.call { callee := Callee.builtin Builtin.append, args := #[Operand.tmp 169, Operand.tmp 171], argTypes := #[51, 51] }, type := 51, pos := "ref.go:80", after := #[{ on := 4, ground := Ground.data }, { on := 6, ground := Ground.data }], guard := none }) rfl (fun K hK => ?_) AllReadyH.nil
                  (refine step_appN (by rfl) _ _ _ (by rfl) 0 55 i1 _ 6 48 Try.underlying51 hj0 hj1 hj2 hj3 rfl (by omega) (.slice va nA vc) nA _ (by rfl) HRW.out (.slice (some ⟨wr.heap.size, 0, none⟩) 1 1) 1 (ME.kpL (mkE k s pv)) (by rfl) (srcN_new wr.drew (ME.kpL (mkE k s pv)) 55 6 1 1 rfl) (by simp [ME.kpL, Value.oneCell']) (by unfold maxLen; omega) (by omega) (Nat.zero_le _) ?_; intro v6 w6 hown6 hg6 hat6; have HS6 := Lib.hid (HST.out w6 hg6); have hS1 := HS6.out.1)
                  refine hK.out _ _ ?_ (fun hHeld => ?_)
                  · first | exact hS1 | exact HSC.out | exact HSA.out
                  clear hK K
                  (try simp only [Act.put, List.setIfInBounds_toArray, List.set_cons_zero, List.set_cons_succ])
                  refine wpAnyH_take (i := 8) (oi := { dst := some 173, op := Op.nilCheck (Operand.tmp 165), type := 0, pos := "ref.go:80", after := #[{ on := 0, ground := Ground.data }, { on := 0, ground := Ground.phase }, { on := 1, ground := Ground.phase }, { on := 2, ground := Ground.phase }, { on := 3, ground := Ground.phase }, { on := 4, ground := Ground.phase }, { on := 5, ground := Ground.phase }, { on := 6, ground := Ground.phase }, { on := 7, ground := Ground.phase }], guard := none }) (v := ?_) rfl (by kernel_rfl) (by kernel_rfl) (by kernel_rfl) (fun _ _ _ h => h) (Or.inl ⟨by rfl, ?_⟩) (by assumption) ?_
                  rotate_left
                  · ((intro w hSw; (try dsimp only at hSw); go_simp; (try rw [if_neg (by omega)])); try with_reducible rfl)
                  (try simp only [Act.put, List.setIfInBounds_toArray, List.set_cons_zero, List.set_cons_succ])
                  refine wpAnyH_take (i := 9) (oi := { dst := some 174, op := Op.fieldAddr 53 (Operand.tmp 173) 2, type := 0, pos := "ref.go:80", after := #[{ on := 8, ground := Ground.data }, { on := 0, ground := Ground.phase }, { on := 1, ground := Ground.phase }, { on := 2, ground := Ground.phase }, { on := 3, ground := Ground.phase }, { on := 4, ground := Ground.phase }, { on := 5, ground := Ground.phase }, { on := 6, ground := Ground.phase }, { on := 7, ground := Ground.phase }], guard := none }) (v := ?_) rfl (by kernel_rfl) (by kernel_rfl) (by kernel_rfl) (fun _ _ _ h => h) (Or.inl ⟨by rfl, ?_⟩) (by assumption) ?_
                  rotate_left
                  · ((intro w hSw; (try dsimp only at hSw); go_simp; (try rw [if_neg (by omega)])); try with_reducible rfl)
                  (try simp only [Act.put, List.setIfInBounds_toArray, List.set_cons_zero, List.set_cons_succ])
                  refine wpAnyH_done (by kernel_rfl) ?_ _
                  show Oper.wp _ _ _ _ _ _
                  have hnl2 := hnl
                  obtain ⟨-, hr6⟩ := HS6.out
                  obtain ⟨d0, d1, d2⟩ := rmem_cells hr6
                  have hfz : w6.frozen? ⟨r, 2, none⟩ = false := by simp [World.frozen?, hr6]
                  have HE := Lib.hid (HEND.out w6 v6 hg6 hown6 hat6)
                  obtain ⟨oa6, oc6, rfl⟩ := own_shape hown6
                  clear hown6 hg6 hat6 hS1 hr6 HS6 HEND HST HSA HSC HRW
                  go_wp2
                  go_ret2
                  rw [HPU.out, HROOM.out]
                  have q1 := HE.out.1
                  rw [hB] at q1
                  exact ⟨_, rfl, q1, HE.out.2⟩
            · obtain ⟨x, R, rfl⟩ : ∃ x R', R = x :: R' := by
                cases R with
                | nil => exact absurd (.inr rfl) hstop
                | cons x R => exact ⟨x, R, rfl⟩
              have hgt : ¬ ME.sm (A ++ x :: R) + s ≤ bu := fun z => hstop (.inl z)
              have hgt2 : bu < ME.sm (A ++ x :: R) + s := by omega
              obtain ⟨⟨G', hrr, hG', hGX', hGv⟩, hrow, hbox, hfr⟩ := HRw.out
              obtain ⟨⟨v, hr, hrw, hvG⟩, hgr, hlt⟩ := id hrr
              obtain ⟨va, vc, rfl⟩ := own_shape hrw
              obtain ⟨nA, hnA⟩ : ∃ nA, (A ++ x :: R).length = nA := ⟨_, rfl⟩
              obtain ⟨p, hp⟩ : ∃ p, A.length = p := ⟨_, rfl⟩
              have hlp : (p : Int) < (nA : Int) := by rw [← hnA, ← hp]; simp; omega
              have hp0 : (0 : Int) ≤ (p : Int) := by omega
              have hget : (A ++ x :: R)[p]? = some x := by rw [← hp]; simp
              rw [hnA] at hr hrw
              have hc2 := rmem_cells hr
              obtain ⟨g, rfl, hgl, k0, k1, k2, k3, k4, k5⟩ := kept_at hrw hget (by omega)
              obtain ⟨c0, c1, c2⟩ := hc2
              have hxz := hsz x (by simp)
              have hnl : nA ≤ 1000000 := by rw [← hnA]; exact HC.out.2.1
              have HLN : Hid (lenAt r wr = nA) := Lib.hid (lenAt_eq c2)
              have HG := Lib.hid hgt
              have HNA := Lib.hid hnA
              have HP := Lib.hid hp
              obtain ⟨tot, htot⟩ : ∃ tot, ME.sm (A ++ x :: R) + s = tot := ⟨_, rfl⟩
              rw [htot] at hgt2 ⊢
              rw [hp]
              have HTO := Lib.hid htot
              clear hgt hstop hnA hp hget hroom htot
              cases hpin : x.pin with
              | true =>
                rw [hpin] at k5
                have HST : Hid (ME.room bu T P1 = ((A ++ [x]) ++ (ME.room bu (ME.sm ((A ++ [x]) ++ R) + s) R).1, Gn ++ (ME.room bu (ME.sm ((A ++ [x]) ++ R) + s) R).2)) := Lib.hid (by
                  rw [HRm.out, ME.room_pin HG.out hpin]
                  simp)
                have HAP : Hid ((A ++ [x]) ++ R = A ++ x :: R) := Lib.hid (by simp)
                clear hrr hG' hGX' hGv hrow hbox hfr hr hrw hvG hgr hlt k0 k1 k2 k3 k4
                go_wp2
                go_roundw
                case rel =>
                  refine ⟨A ++ [x], R, Gn, _, by rw [List.length_append, HP.out, List.length_singleton]; go_num, by rw [HAP.out, HTO.out], rfl, HST, ?_, Lib.hid ⟨by rw [HAP.out]; exact HC.out.1, by rw [HAP.out]; exact HC.out.2.1, by have := HC.out.2.2; simp at this ⊢; omega⟩⟩
                  have h := HRw.out
                  exact Lib.hid ⟨by rw [HAP.out]; exact h.rr, h.row, h.box, h.fr⟩
                case measure =>
                  show lenAt r wr - ((p : Int) + 1).toNat < lenAt r wr - (p : Int).toNat
                  rw [HLN.out]
                  omega
              | false =>
                rw [hpin] at k5
                have hwr : IntKind.i64.wrap (tot - x.size) = tot - x.size := IntWalk.i64_in _ (by have := HTO.out; omega)
                have hwp : IntKind.i64.wrap ((p : Int) - 1) = (p : Int) - 1 := IntWalk.i64_in _ (by omega)
                have hwp2 : IntKind.i64.wrap ((p : Int) - 1 + 1) = (p : Int) := by rw [IntWalk.i64_in _ (by omega)]; omega
                have HTS : Hid (tot - x.size = ME.sm (A ++ R) + s) := Lib.hid (by
                  rw [← HTO.out, ME.sm_app, ME.sm_app, ME.sm_cons]
                  omega)
                have HST : Hid (ME.room bu T P1 = (A ++ (ME.room bu (ME.sm (A ++ R) + s) R).1, (Gn ++ [x.key]) ++ (ME.room bu (ME.sm (A ++ R) + s) R).2)) := Lib.hid (by
                  rw [HRm.out, ME.room_gone HG.out hpin, HTO.out, HTS.out]
                  simp)
                obtain ⟨oa, oc, rfl⟩ := own_shape hrow
                have hGl : Gn.length ≤ 1000000 := by have := HC.out.2.2; omega
                have hob : ∀ q, (Value.slice oa Gn.length oc).ownBlock = some q → W.heap.size ≤ q ∧ q < wr.heap.size := hrow.lt
                have hXs : X < wr.heap.size := (Array.getElem?_eq_some_iff.1 hbox).1
                have hGv' : ∀ q, (Value.slice oa Gn.length oc).ownBlock = some q → ¬ G' q := fun q e => (hGv q e).1
                have hGX2 : (Value.slice oa Gn.length oc).ownBlock ≠ some X := fun e => (hGv X e).2 rfl
                have HK7 : Hid (∀ w7, (wr.alloc (.cells #[.int .i64 x.f, .int .i64 x.k, .int .i64 x.n, .int .i64 x.r] 34)).grownBy w7 (Value.slice oa Gn.length oc).ownBlock → FrS (fun b => (Value.slice oa Gn.length oc).ownBlock = some b) wr w7 ∧ w7.heap[r]? = some (.cells #[.bool true, .int .i64 bu, .slice (some ⟨g, 0, none⟩) nA vc] 53 (0, 0)) ∧ RrAt w7 r bu (A ++ x :: R) G' ∧ w7.cell? ⟨g, p * 6 + 4, none⟩ = some (.int .i64 x.size)) := Lib.hid fun w7 hg => by
                  have hf : FrS (fun b => (Value.slice oa Gn.length oc).ownBlock = some b) wr w7 := (FrS.of (balloc (Below.refl _ _) _)).trans (FrS.grown hg (fun q e => e))
                  have hGg : G' g := (hvG g rfl).1
                  refine ⟨hf, (hf.block r (hlt r hgr) (fun e => hGv' r e hgr)).trans hr, hrr.kept hf (fun b hb e => hGv' b e hb), ?_⟩
                  have hbg := hf.block g hgl (fun e => hGv' g e hGg)
                  rw [← k4]
                  simp only [World.cell?, hbg]
                have HGV := Lib.hid hGv'
                have HOB := Lib.hid hob
                have HBO := Lib.hid hbox
                have HFR := Lib.hid hfr
                have HGE := Lib.hid hG'
                have HGR := Lib.hid hgr
                have HLT := Lib.hid hlt
                clear hrr hG' hGv hGv' hob hbox hr hrw hvG hgr hlt
                go_upto_region 26 with (at_builtin; refine wpList_appN _ rfl _ _ 43 rfl W.heap.size 34 i0 _ 4 32 Try.underlying43 hi0 hz0 hz1 hz2 rfl (by decide) (.slice oa Gn.length oc) Gn.length _ rfl (own_below hrow (balloc (Below.refl _ _) _)) (.slice (some ⟨wr.heap.size, 0, none⟩) 1 1) 1 (ME.kyL x.key) rfl (srcN_new wr (ME.kyL x.key) 34 4 1 1 rfl) (by simp [ME.kyL, Value.oneCell']) (by unfold maxLen; omega) (by omega) (by have := hfr.size; simp; omega) ?_; intro v7 w7 hown7 hgrow7 hat7; have h7f := HK7.out w7 hgrow7; obtain ⟨oa7, oc7, rfl⟩ := own_shape hown7; have e2 := (rmem_cells h7f.2.1).2.2; have e4 := h7f.2.2.2)
                obtain ⟨hf7, hr7, h7, -⟩ := h7f
                have hsz7 := hf7.size
                have hgx7 : ∀ q, (Value.slice oa7 (Gn.length + 1) oc7).ownBlock = some q → q ≠ X := fun q e z => by
                  rcases hat7 with h | h
                  · exact hGX2 (by rw [← h, e, z])
                  · rw [e] at h
                    have h1 := Option.some.inj h
                    simp at h1
                    omega
                have hgv7 : ∀ q, (Value.slice oa7 (Gn.length + 1) oc7).ownBlock = some q → ¬ G' q ∧ q < w7.heap.size := fun q e => ⟨fun z => by
                  rcases hat7 with h | h
                  · exact HGV.out q (by rw [← h]; exact e) z
                  · rw [e] at h
                    have h1 := Option.some.inj h
                    have h2 := HLT.out q z
                    simp at h1
                    omega, (hown7.lt q e).2⟩
                have hbox7 := (hf7.block X hXs (fun e => hGX2 e)).trans HBO.out
                have hfr7 : FrS G W w7 := HFR.out.next hf7 (fun b hb => (HOB.out b hb).1)
                have HWO := Lib.hid (rwithout_any w7 r bu A R x G' h7 HC.out.2.1)
                rw [HP.out] at HWO
                have HOW7 := Lib.hid hown7
                clear hown7 hgrow7 hat7 hf7 hr7 e2 e4 c0 c1 c2 k0 k1 k2 k3 k4 k5 hrow hfr HK7
                go_wp2_with fail
                go_at_call 41
                refine HWO.out.mono ?_
                rintro y w8 ⟨v8, rfl, hown8, hb8⟩
                have h8 := h7.below hb8
                obtain ⟨⟨v', hr8, -, -⟩, -, -⟩ := id h8
                obtain ⟨d0, d1, d2⟩ := rmem_cells hr8
                have hfz : w8.frozen? ⟨r, 2, none⟩ = false := by simp [World.frozen?, hr8]
                have hput8 := h8.put (P' := A ++ R) hown8 h7.lt
                have hX7 : X < w7.heap.size := by omega
                have hbox9 := (Below.heap_setCell w8 ⟨r, 2, none⟩ v8 X (fun z => hGX' (by rw [show X = r from z]; exact HGR.out))).trans ((hb8.block X hX7).trans hbox7)
                have hrow9 : (w8.setCell ⟨r, 2, none⟩ v8).ownsRow W.heap.size 34 4 (.slice oa7 (Gn.length + 1) oc7) (Gn.length + 1) (ME.kc Gn ++ ME.kyL x.key) := (FrS.set (S := fun b => b = r) w8 (b := r) rfl v8).own (own_below HOW7.out hb8) (fun q e z => (hgv7 q e).1 (by rw [z]; exact HGR.out))
                have hfr9 : FrS G W (w8.setCell ⟨r, 2, none⟩ v8) := (hfr7.then hb8).trans (FrS.set (S := G) _ (b := r) HH.out.gr _)
                have HRI9 : Hid (RpI W (w8.setCell ⟨r, 2, none⟩ v8) r bu G A R (.slice oa7 (Gn.length + 1) oc7) (Gn ++ [x.key]) X (mkE k s pv)) := Lib.hid ⟨⟨_, hput8, fun b hb => hb.elim (HGE.out b) (fun z => .inr (by have := hfr7.size; omega)), fun z => z.elim hGX' (fun z => by omega), fun q e => ⟨fun z => z.elim (hgv7 q e).1 (fun z => by have := (hgv7 q e).2; omega), hgx7 q e⟩⟩, by rw [List.length_append, ME.kc_app, ME.kc_one]; exact hrow9, hbox9, hfr9⟩
                have hnl8 : (A ++ R).length = nA - 1 := by rw [← HNA.out]; simp
                rw [hnl8] at hown8
                obtain ⟨oa8, oc8, rfl⟩ := own_shape hown8
                have HL9 : Hid (lenAt r (w8.setCell ⟨r, 2, none⟩ (.slice oa8 (nA - 1) oc8)) = nA - 1) := Lib.hid (by
                  have h9 : (w8.setCell ⟨r, 2, none⟩ (.slice oa8 (nA - 1) oc8)).heap[r]? = some (.cells #[.bool true, .int .i64 bu, .slice oa8 (nA - 1) oc8] 53 (0, 0)) := heap_setCell_same w8 r 2 _ _ (.slice oa8 (nA - 1) oc8) hr8
                  exact lenAt_eq (rmem_cells h9).2.2)
                clear hput8 hbox9 hrow9 hfr9 hnl8 hown8 h8 hr8 hb8 h7 hbox7 hfr7 hgv7 hgx7
                go_wp2
                go_roundw
                case rel =>
                  refine ⟨A, R, Gn ++ [x.key], _, by rw [HP.out], by rw [← HTS.out], rfl, HST, HRI9, Lib.hid ⟨HC.out.1.del, by have := HC.out.2.1; simp at this ⊢; omega, by have := HC.out.2.2; simp at this ⊢; omega⟩⟩
                case measure =>
                  show lenAt r _ - (p : Int).toNat < lenAt r wr - (p : Int).toNat
                  rw [HLN.out, HL9.out]
                  omega
end Go.Proofs.Ytmnajongifdajaa
