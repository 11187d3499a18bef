/- Put. No conditions. -/
import Derived.Test.YtmnajongifdajaaMem15
namespace Go.Proofs.Ytmnajongifdajaa.ME
set_option linter.unusedVariables false
theorem sm_nil : sm [] = 0 := rfl
theorem pn_nil : pn [] = 0 := rfl
theorem room_fit_aux (bu : Int) : ∀ (R : List (Nat × En)) (t : Int), pn (R.map Prod.snd) + (t - sm (R.map Prod.snd)) ≤ bu → sm ((roomN bu t R).1.map Prod.snd) + (t - sm (R.map Prod.snd)) ≤ bu
  | [], t, h => h
  | x :: R, t, h => by
    rw [List.map_cons, sm_cons, pn_cons] at h
    rw [List.map_cons, sm_cons]
    unfold roomN
    split
    · rename_i ht
      dsimp only
      rw [List.map_cons, sm_cons]
      omega
    · split
      · rename_i hp
        have := room_fit_aux bu R t (by rw [if_pos hp] at h; omega)
        dsimp only
        rw [List.map_cons, sm_cons]
        omega
      · rename_i hp
        have := room_fit_aux bu R (t - x.2.size) (by rw [if_neg hp] at h; omega)
        dsimp only
        omega
theorem room_fit {bu : Int} {L : List (Nat × En)} (s : Int) (_ : ∀ e ∈ L.map Prod.snd, 0 ≤ e.size ∧ e.size ≤ 65536) (h : s + pn (L.map Prod.snd) ≤ bu) : sm ((roomN bu (sm (L.map Prod.snd) + s) L).1.map Prod.snd) + s ≤ bu := by
  have := room_fit_aux bu L (sm (L.map Prod.snd) + s) (by omega)
  omega
theorem room_sub (bu : Int) : ∀ (R : List (Nat × En)) (t : Int), (roomN bu t R).1.Sublist R
  | [], t => List.Sublist.refl _
  | x :: R, t => by
    unfold roomN
    split
    · exact List.Sublist.refl _
    · split
      · exact (room_sub bu R t).cons_cons x
      · exact (room_sub bu R _).cons x
theorem room_keys {bu t : Int} {k : K4} {L : List (Nat × En)} (h : ∀ e ∈ L.map Prod.snd, e.key ≠ k) : ∀ e ∈ (roomN bu t L).1.map Prod.snd, e.key ≠ k := fun e he => h e (((room_sub bu L t).map Prod.snd).subset he)
theorem roomN_len (bu t : Int) (L : List (Nat × En)) : (roomN bu t L).1.length ≤ L.length := (room_sub bu L t).length_le
/-- The same, of entries alone. -/
def room (bu : Int) : Int → List En → List En × List K4
  | _, [] => ([], [])
  | tot, x :: R => if tot ≤ bu then (x :: R, []) else if x.pin = true then (x :: (room bu tot R).1, (room bu tot R).2) else ((room bu (tot - x.size) R).1, x.key :: (room bu (tot - x.size) R).2)
theorem roomN_room (bu : Int) : ∀ (L : List (Nat × En)) (t : Int), ((roomN bu t L).1.map Prod.snd, (roomN bu t L).2) = room bu t (L.map Prod.snd)
  | [], t => rfl
  | x :: R, t => by
    have h1 := roomN_room bu R t
    have h2 := roomN_room bu R (t - x.2.size)
    rw [List.map_cons]
    unfold roomN room
    rw [← h1, ← h2]
    split
    · rfl
    · split <;> rfl
def mkE (k : K4) (s : Int) (p : Bool) : En := ⟨k.1, k.2.1, k.2.2.1, k.2.2.2, s, p⟩
def pinOf (k : K4) (P : List En) : Bool := match fnd k P with | none => false | some e => e.pin
/-- 'Put': what is kept, what was given up, the error. -/
def put (bu : Int) (k : K4) (s : Int) (P : List En) : List En × List K4 × Int :=
  if s < 0 ∨ 65536 < s then (P, [], 1) else if bu < s + pn (wo k P) then (P, [], 50) else ((room bu (sm (wo k P) + s) (wo k P)).1 ++ [mkE k s (pinOf k P)], (room bu (sm (wo k P) + s) (wo k P)).2, 0)
end Go.Proofs.Ytmnajongifdajaa.ME
namespace Go.Proofs.Ytmnajongifdajaa
set_option maxRecDepth 100000
set_option linter.unusedVariables false
open Go.RowKit Go.Maps ME
theorem FrS.over {S T : Nat → Prop} {A B C : World} (h : FrS S A B) (k : FrS T B C) (hT : ∀ b, T b → S b ∨ A.heap.size ≤ b) : FrS S A C :=
  ⟨Nat.le_trans h.size k.size, fun b h1 h2 => (k.block b (Nat.lt_of_lt_of_le h1 h.size) (fun x => by rcases hT b x with z | z; exact h2 z; omega)).trans (h.block b h1 h2), fun U h1 h2 => k.below U (h.below U h1 h2) (fun b hb => (hT b hb).elim (h2 b) (fun z => Nat.le_trans h1.size z))⟩
/-- What 'Put' leaves. -/
structure PutP (W w' : World) (M mb root : Nat) (bu : Int) (n : Nat) (F : Nat → Prop) (P : List En × List K4 × Int) (x : Ending) : Prop where
  out : ∃ v, x = .returned (.tuple #[v, .int .i64 P.2.2]) ∧ w'.ownsRow W.heap.size 34 4 v P.2.1.length (ME.kc P.2.1)
  mm : ∃ L' n' F', L'.map Prod.snd = P.1 ∧ n' ≤ n + 1 ∧ MmAt w' M mb root bu L' n' F' ∧ ME.Ok bu (L'.map Prod.snd) ∧ ∀ y, F' y → F y ∨ W.heap.size ≤ y
  fr : FrS F W w'
theorem PutP.err {W w' : World} {M mb root : Nat} {bu : Int} {n : Nat} {F : Nat → Prop} {L : List (Nat × En)} {er : Int} (h : MmAt w' M mb root bu L n F) (ok : ME.Ok bu (L.map Prod.snd)) (hb : Below W.heap.size W w') : PutP W w' M mb root bu n F (L.map Prod.snd, [], er) (.returned (.tuple #[.slice none 0 0, .int .i64 er])) :=
  ⟨⟨_, rfl, World.ownsRow_nil _ _ _ _⟩, ⟨L, n, F, rfl, by omega, h, ok, fun y hy => .inl hy⟩, FrS.of hb⟩
theorem old_set {w : World} {B : Nat} {a b c d e p : Value} {k0 k1 k2 k3 k4 k5 : Value} {u0 u1 u2 u3 u4 u5 : Value} {T : TypeId} (h1 : w.heap[B + 1]? = some (.cells #[k0, k1, k2, k3, k4, k5] T (0, 0))) (h2 : w.heap[B + 1 + 1]? = some (.cells #[u0, u1, u2, u3, u4, u5] T (0, 0))) (V : World)
    (hV : (((((((w.setCell ⟨B + 1 + 1, 0, none⟩ a).setCell ⟨B + 1 + 1, 1, none⟩ b).setCell ⟨B + 1 + 1, 2, none⟩ c).setCell ⟨B + 1 + 1, 3, none⟩ d).setCell ⟨B + 1 + 1, 4, none⟩ e).setCell ⟨B + 1 + 1, 5, none⟩ p).setCell ⟨B + 1, 5, none⟩ p) = V) :
    V.heap[B + 1]? = some (.cells #[k0, k1, k2, k3, k4, p] T (0, 0)) ∧ V.heap[B + 1 + 1]? = some (.cells #[a, b, c, d, e, p] T (0, 0)) ∧ FrS (fun y => y = B + 1 ∨ y = B + 1 + 1) w V := by
  subst hV
  refine ⟨?_, ?_, ?_⟩
  · refine heap_setCell_same _ (B + 1) 5 #[k0, k1, k2, k3, k4, k5] T p ?_
    refine (Below.heap_setCell _ ⟨B + 1 + 1, 5, none⟩ _ (B + 1) (by simp)).trans ((Below.heap_setCell _ ⟨B + 1 + 1, 4, none⟩ _ (B + 1) (by simp)).trans ((Below.heap_setCell _ ⟨B + 1 + 1, 3, none⟩ _ (B + 1) (by simp)).trans ((Below.heap_setCell _ ⟨B + 1 + 1, 2, none⟩ _ (B + 1) (by simp)).trans ((Below.heap_setCell _ ⟨B + 1 + 1, 1, none⟩ _ (B + 1) (by simp)).trans ((Below.heap_setCell _ ⟨B + 1 + 1, 0, none⟩ _ (B + 1) (by simp)).trans h1)))))
  · refine (Below.heap_setCell _ ⟨B + 1, 5, none⟩ _ (B + 1 + 1) (by simp)).trans ?_
    exact heap_setCell_same _ (B + 1 + 1) 5 _ T p (heap_setCell_same _ (B + 1 + 1) 4 _ T e (heap_setCell_same _ (B + 1 + 1) 3 _ T d (heap_setCell_same _ (B + 1 + 1) 2 _ T c (heap_setCell_same _ (B + 1 + 1) 1 _ T b (heap_setCell_same w (B + 1 + 1) 0 _ T a h2)))))
  · exact ((((((FrS.set (S := fun y => y = B + 1 ∨ y = B + 1 + 1) _ (b := B + 1 + 1) (.inr rfl) _).trans (FrS.set _ (b := B + 1 + 1) (.inr rfl) _)).trans (FrS.set _ (b := B + 1 + 1) (.inr rfl) _)).trans (FrS.set _ (b := B + 1 + 1) (.inr rfl) _)).trans (FrS.set _ (b := B + 1 + 1) (.inr rfl) _)).trans (FrS.set _ (b := B + 1 + 1) (.inr rfl) _)).trans (FrS.set _ (b := B + 1) (.inl rfl) _)
set_option maxHeartbeats 4000000 in
theorem put_none (W : World) (M mb root : Nat) (bu s : Int) (L : List (Nat × En)) (n : Nat) (F : Nat → Prop) (k : K4) (hk : K4ok k) (h : MmAt W M mb root bu L n F) (ok : ME.Ok bu (L.map Prod.snd)) (hs0 : 0 ≤ s) (hs1 : s ≤ 65536) (hn : n < 1000000000) (hlen : L.length ≤ 1000000) (hno : ∀ e ∈ L.map Prod.snd, e.key ≠ k) (hl : look L k = none) (hfit : s + ME.pn (L.map Prod.snd) ≤ bu) :
    Calls Try.prog 17 #[ptr M, kyV k, .int .i64 s] W fun x w' => PutP W w' M mb root bu n F (ME.put bu k s (L.map Prod.snd)) x := by
  obtain ⟨PP, hPP⟩ : ∃ PP, ME.put bu k s (L.map Prod.snd) = PP := ⟨_, rfl⟩
  rw [hPP]
  have HPP := Lib.hid hPP
  clear hPP
  have HZ := Lib.hid fun V (hV : Below W.heap.size W V) => iszero_some V M bu _ _ mb root (h.below hV).mem.1
  have HFD := Lib.hid fun V (hV : Below W.heap.size W V) => find_any V M mb root bu L n F k hk (h.below hV)
  rw [hl] at HFD
  obtain ⟨B, hB⟩ : ∃ B, W.heap.size = B := ⟨_, rfl⟩
  have HF : Hid (∀ b, F b → b < B) := Lib.hid fun b hb => by rw [← hB]; exact h.lt b hb
  obtain ⟨W3, hW3, b0, b1, b2, hb3, hs3⟩ := three W (.cells #[.int .i64 k.1, .int .i64 k.2.1, .int .i64 k.2.2.1, .int .i64 k.2.2.2] 34) (.cells #[.int .i64 k.1, .int .i64 k.2.1, .int .i64 k.2.2.1, .int .i64 k.2.2.2, .int .i64 s, .bool false] 73) (.cells #[.int .i64 0, .int .i64 0, .int .i64 0, .int .i64 0, .int .i64 0, .bool false] 73) B hB
  have hbw : Below W.heap.size W W3 := by rw [hB]; exact hb3
  have g0 : ¬ s < 0 := by omega
  have g1 : ¬ 65536 < s := by omega
  have p0 : W3.cell? ⟨B, 0, none⟩ = some (.int .i64 k.1) := nd_cell b0 rfl
  have p1 : W3.cell? ⟨B, 1, none⟩ = some (.int .i64 k.2.1) := nd_cell b0 rfl
  have p2 : W3.cell? ⟨B, 2, none⟩ = some (.int .i64 k.2.2.1) := nd_cell b0 rfl
  have p3 : W3.cell? ⟨B, 3, none⟩ = some (.int .i64 k.2.2.2) := nd_cell b0 rfl
  have mixed : Try.prog.follows .mixedOrders = true := by kernel_rfl
  go_enter Try.func17, Try.ntmps17
  go_wp2_with fail
  go_at_call 32
  refine (HZ.out _ (balloc (Below.refl _ _) _)).mono ?_
  rintro x w1 ⟨rfl, rfl⟩
  go_wp2_with fail
  try rw [hW3]
  go_at_call 27
  refine (HFD.out W3 hbw).mono ?_
  rintro x wa ⟨rfl, hba⟩
  simp only [optP]
  clear p0 p1 p2 p3
  have hma := (h.below hbw).below hba
  have b0a := (hba.block B (by omega)).trans b0
  have b1a := (hba.block (B + 1) (by omega)).trans b1
  have b2a := (hba.block (B + 1 + 1) (by omega)).trans b2
  have hpin := hma.mem.1.cells.2.2.1
  have hbud := hma.mem.1.cells.1
  obtain ⟨pn, hpn⟩ : ∃ pn, ME.pn (L.map Prod.snd) = pn := ⟨_, rfl⟩
  have hsz := ok.sz
  have hpl := ME.pn_le hsz
  have hsu := ok.sum
  have hbb := ok.b1
  rw [hpn] at hpin hfit hpl
  have o5 : wa.cell? ⟨B + 1 + 1, 5, none⟩ = some (.bool false) := nd_cell b2a rfl
  have hwr : IntKind.i64.wrap (s + pn) = s + pn := IntWalk.i64_in _ (by omega)
  have hfull : ¬ bu < s + pn := by omega
  have x0 : wa.cell? ⟨B, 0, none⟩ = some (.int .i64 k.1) := nd_cell b0a rfl
  have x1 : wa.cell? ⟨B, 1, none⟩ = some (.int .i64 k.2.1) := nd_cell b0a rfl
  have x2 : wa.cell? ⟨B, 2, none⟩ = some (.int .i64 k.2.2.1) := nd_cell b0a rfl
  have x3 : wa.cell? ⟨B, 3, none⟩ = some (.int .i64 k.2.2.2) := nd_cell b0a rfl
  have HBA := Lib.hid (bnext hbw hba)
  go_wp2_with fail
  go_at_call 27
  refine (HFD.out wa HBA.out).mono ?_
  rintro x wv ⟨rfl, hbv⟩
  simp only [optP]
  have hmv := hma.below hbv
  have b0v := (hbv.block B (by have := (Array.getElem?_eq_some_iff.1 b0a).1; omega)).trans b0a
  have b1v := (hbv.block (B + 1) (by have := (Array.getElem?_eq_some_iff.1 b1a).1; omega)).trans b1a
  have HBV := Lib.hid (bnext HBA.out hbv)
  rw [← hpn] at hfit
  have HFV := Lib.hid (FrS.of (S := F) HBV.out)
  have hput : ME.put bu k s (L.map Prod.snd) = ((ME.room bu (ME.sm (L.map Prod.snd) + s) (L.map Prod.snd)).1 ++ [mkE k s false], (ME.room bu (ME.sm (L.map Prod.snd) + s) (L.map Prod.snd)).2, 0) := by
    unfold ME.put ME.pinOf
    rw [if_neg (by omega), ME.wo_none hno, if_neg (by omega), ME.fnd_none hno]
  have okv := ok
  have hno1 := hno
  have hl1 := hlen
  obtain ⟨pv, hpv⟩ : ∃ pv, false = pv := ⟨_, rfl⟩
  rw [hpv] at b1v hput
  obtain ⟨L1, hL1⟩ : ∃ L1, L = L1 := ⟨_, rfl⟩
  rw [HPP.out] at hput
  rw [hL1] at hmv okv hno1 hl1 hfit hput
  have HL1 := Lib.hid hL1
  have HPV := Lib.hid hpv
  clear hL1 hpv x0 x1 x2 x3 o5 hwr hfull hpin hbud hpn hsz hpl hsu hbb b0a b1a b2a hma hba hbv b0 b1 b2 hb3 hbw hW3 hs3 ok hno hlen hl h HFD HZ
  have HRO := Lib.hid (callsIn_wide.1 (room_in 3 (Nat.le_refl _) wv M mb root bu s L1 n F hmv okv hs0 hs1 hl1))
  have hsum1 := ME.room_fit s okv.sz hfit
  have hkeys1 := ME.room_keys (bu := bu) (t := ME.sm (L1.map Prod.snd) + s) (k := k) hno1
  have hrl := ME.roomN_len bu (ME.sm (L1.map Prod.snd) + s) L1
  obtain ⟨rm, hrm⟩ : ∃ rm, ME.roomN bu (ME.sm (L1.map Prod.snd) + s) L1 = rm := ⟨_, rfl⟩
  obtain ⟨L2, gone⟩ := rm
  have hrr := ME.roomN_room bu L1 (ME.sm (L1.map Prod.snd) + s)
  rw [hrm] at hrr
  rw [← hrr] at hput
  simp only at hput
  have HPUT := Lib.hid hput
  rw [hrm] at HRO hsum1 hkeys1 hrl
  simp only at HRO hsum1 hkeys1 hrl
  go_wp2_with fail
  go_at_call 33
  refine HRO.out.mono ?_
  rintro x w5 ⟨gv, rfl, hm5, ok5, hrow5, hf5⟩
  clear HRO
  have b05 := (hf5.block B (Array.getElem?_eq_some_iff.1 b0v).1 (fun x => by have := HF.out B x; omega)).trans b0v
  have b15 := (hf5.block (B + 1) (Array.getElem?_eq_some_iff.1 b1v).1 (fun x => by have := HF.out _ x; omega)).trans b1v
  obtain ⟨e0, he0⟩ : ∃ e0, w5.heap.size = e0 := ⟨_, rfl⟩
  have hbe : B + 1 < e0 := by have := (Array.getElem?_eq_some_iff.1 b15).1; omega
  have hn0 := heap_alloc_new w5 (.cells #[.int .i64 k.1, .int .i64 k.2.1, .int .i64 k.2.2.1, .int .i64 k.2.2.2, .int .i64 s, .bool pv, .pointer none, .pointer none] 78)
  have hb6 := balloc (Below.refl w5.heap.size w5) (.cells #[.int .i64 k.1, .int .i64 k.2.1, .int .i64 k.2.2.1, .int .i64 k.2.2.2, .int .i64 s, .bool pv, .pointer none, .pointer none] 78)
  have y0 : w5.cell? ⟨B + 1, 0, none⟩ = some (.int .i64 k.1) := nd_cell b15 rfl
  have y1 : w5.cell? ⟨B + 1, 1, none⟩ = some (.int .i64 k.2.1) := nd_cell b15 rfl
  have y2 : w5.cell? ⟨B + 1, 2, none⟩ = some (.int .i64 k.2.2.1) := nd_cell b15 rfl
  have y3 : w5.cell? ⟨B + 1, 3, none⟩ = some (.int .i64 k.2.2.2) := nd_cell b15 rfl
  have y4 : w5.cell? ⟨B + 1, 4, none⟩ = some (.int .i64 s) := nd_cell b15 rfl
  have y5 : w5.cell? ⟨B + 1, 5, none⟩ = some (.bool pv) := nd_cell b15 rfl
  obtain ⟨w6, hw6⟩ : ∃ w6, w5.alloc (.cells #[.int .i64 k.1, .int .i64 k.2.1, .int .i64 k.2.2.1, .int .i64 k.2.2.2, .int .i64 s, .bool pv, .pointer none, .pointer none] 78) = w6 := ⟨_, rfl⟩
  rw [hw6] at hn0 hb6
  rw [he0] at hn0
  have hb6' := hb6
  rw [he0] at hb6'
  have hN6 : Nd w6 e0 (mkE k s pv) (.pointer none) (.pointer none) := hn0
  have hm6 := hm5.below hb6
  have hnew : e0 ∉ root :: L2.map Prod.fst := fun hx => by
    have : e0 < w5.heap.size := by
      rcases List.mem_cons.1 hx with h | h
      · rw [h]; exact hm5.lt _ hm5.mem.2.2.2.2
      · exact hm5.lt _ (hm5.fL _ h)
    omega
  have hFl : F (lst root L2) := by
    rcases lst_mem root L2 with h | h
    · rw [h]; exact hm5.mem.2.2.2.2
    · exact hm5.fL _ h
  have hnl : ∃ el pl ql, Nd w6 (lst root L2) el pl ql := hm6.mem.2.1.node _ (by
    rcases lst_mem root L2 with h | h
    · rw [h]; simp
    · exact List.mem_cons_of_mem _ h)
  obtain ⟨el, pl, ql, hnl⟩ := hnl
  have hadd := hm6.mem.2.1.add hN6 hnew
  have hne0 : e0 ≠ lst root L2 := fun z => by have := hm5.lt _ hFl; omega
  have HAD := Lib.hid (add_any w6 root e0 (lst root L2) _ _ el _ _ _ _ _ hm6.mem.2.1.2.1 hN6 hnl (fun z => hnew (by rw [z]; simp)) hne0)
  obtain ⟨-, -, -, -, c46⟩ := hm6.mem.1.cells
  obtain ⟨w7, hw7⟩ : ∃ w7, addW w6 root e0 (lst root L2) = w7 := ⟨_, rfl⟩
  have hfr7 : FrS (fun y => F y ∨ y = e0) w6 w7 := by
    rw [← hw7]
    unfold addW
    exact (((FrS.set (S := fun y => F y ∨ y = e0) _ (b := e0) (.inr rfl) _).trans (FrS.set (S := fun y => F y ∨ y = e0) _ (b := e0) (.inr rfl) _)).trans (FrS.set (S := fun y => F y ∨ y = e0) _ (b := lst root L2) (.inl hFl) _)).trans (FrS.set (S := fun y => F y ∨ y = e0) _ (b := root) (.inl hm5.mem.2.2.2.2) _)
  have hMn : ∀ y, (∃ e p q, Nd w6 y e p q) → M ≠ y := fun y ⟨e', p', q', hn'⟩ => hm6.mem.1.ne hn'
  have hbn : ∀ y, (∃ e p q, Nd w6 y e p q) → mb ≠ y := fun y ⟨e', p', q', hn'⟩ => hm6.mem.2.2.1.ne_cells hn'
  have hM7 : Mm w7 M bu (ME.sm (L2.map Prod.snd)) (ME.pn (L2.map Prod.snd)) (.map (some mb)) root := by
    rw [← hw7]
    exact (addW_other (hMn root (hm6.mem.2.1.node root (by simp))) (hMn e0 ⟨_, _, _, hN6⟩) (hMn _ ⟨_, _, _, hnl⟩)).trans hm6.mem.1
  have hO7 : OM w7.drew mb n (look L2) := by
    rw [← hw7]
    exact hm6.mem.2.2.1.same (addW_other (hbn root (hm6.mem.2.1.node root (by simp))) (hbn e0 ⟨_, _, _, hN6⟩) (hbn _ ⟨_, _, _, hnl⟩))
  rw [hw7] at HAD hadd
  have hmbM := hm6.mem.2.2.1.ne_cells hm6.mem.1
  obtain ⟨w8, hrun, hO8, ht8⟩ := hO7.put k hk hn e0
  have hkv : kyV k = .agg #[.int .i64 k.1, .int .i64 k.2.1, .int .i64 k.2.2.1, .int .i64 k.2.2.2] := rfl
  rw [hkv] at hrun
  have hfr8 : FrS (fun y => y = mb) w7 w8 := (FrS.drew w7).trans (FrS.turned ht8 rfl)
  have hM8 := hM7.kept hfr8 (fun z => hmbM z.symm)
  have hrg8 : Rg w8 root (L2 ++ [(e0, mkE k s pv)]) := hadd.kept hfr8 (fun z => hbn root (hm6.mem.2.1.node root (by simp)) z.symm) (fun y hy z => by
    simp only [List.map_append, List.map_cons, List.map_nil, List.mem_append, List.mem_cons, List.not_mem_nil, or_false] at hy
    rcases hy with hy | hy
    · exact hbn y (hm6.mem.2.1.node y (List.mem_cons_of_mem _ hy)) z.symm
    · exact hbn e0 ⟨_, _, _, hN6⟩ (by rw [← hy]; exact z.symm))
  have hlk : look L2 k = none := by
    cases hl : look L2 k with
    | none => rfl
    | some b =>
      obtain ⟨A', e', C', rfl, hk'⟩ := look_some hl
      exact absurd hk' (hkeys1 e' (by simp))
  have hlo : look (L2 ++ [(e0, mkE k s pv)]) = fun x => if x = k then some e0 else look L2 x := funext fun x => look_app (e := mkE k s pv) hlk x
  have hFk : ∀ b, b < e0 → ¬ F b → ∀ o, w5.heap[b]? = some o → w8.heap[b]? = some o := fun b hb hnf o ho => by
    have h1 := (hb6'.block b hb).trans ho
    have h2 := (hfr7.block b (Array.getElem?_eq_some_iff.1 h1).1 (fun z => z.elim hnf (fun z => by omega))).trans h1
    exact (hfr8.block b (Array.getElem?_eq_some_iff.1 h2).1 (fun z => hnf (by rw [z]; exact hm5.mem.2.2.2.1))).trans h2
  have b18 := hFk (B + 1) (by omega) (fun x => by have := HF.out _ x; omega) _ b15
  have hs5 := ok5.sum
  have hb1 := ok5.b1
  have hnn5 := ME.sm_nonneg ok5.sz
  have hpp5 := ME.pn_le ok5.sz
  obtain ⟨us, hus⟩ : ∃ us, ME.sm (L2.map Prod.snd) = us := ⟨_, rfl⟩
  obtain ⟨pn2, hpn2⟩ : ∃ pn2, ME.pn (L2.map Prod.snd) = pn2 := ⟨_, rfl⟩
  rw [hus] at hM8 hs5 hnn5 hpp5 hsum1
  rw [hpn2] at hM8 hpp5
  have HCN := Lib.hid (count_any w8 M root bu us pn2 1 (.map (some mb)) (mkE k s pv) hM8 (.inl rfl) hs0 hs1 (by omega) (by omega) (by omega) (by omega))
  have z0 : w8.cell? ⟨B + 1, 0, none⟩ = some (.int .i64 k.1) := nd_cell b18 rfl
  have z1 : w8.cell? ⟨B + 1, 1, none⟩ = some (.int .i64 k.2.1) := nd_cell b18 rfl
  have z2 : w8.cell? ⟨B + 1, 2, none⟩ = some (.int .i64 k.2.2.1) := nd_cell b18 rfl
  have z3 : w8.cell? ⟨B + 1, 3, none⟩ = some (.int .i64 k.2.2.2) := nd_cell b18 rfl
  have z4 : w8.cell? ⟨B + 1, 4, none⟩ = some (.int .i64 s) := nd_cell b18 rfl
  have z5 : w8.cell? ⟨B + 1, 5, none⟩ = some (.bool pv) := nd_cell b18 rfl
  obtain ⟨-, -, -, c37, -⟩ := hM7.cells
  have b06 := (hb6.block B (by omega)).trans b05
  have b07 := (hfr7.block B (Array.getElem?_eq_some_iff.1 b06).1 (fun z => z.elim (fun x => by have := HF.out _ x; omega) (fun z => by omega))).trans b06
  have x0 : w7.cell? ⟨B, 0, none⟩ = some (.int .i64 k.1) := nd_cell b07 rfl
  have x1 : w7.cell? ⟨B, 1, none⟩ = some (.int .i64 k.2.1) := nd_cell b07 rfl
  have x2 : w7.cell? ⟨B, 2, none⟩ = some (.int .i64 k.2.2.1) := nd_cell b07 rfl
  have x3 : w7.cell? ⟨B, 3, none⟩ = some (.int .i64 k.2.2.2) := nd_cell b07 rfl
  have HFIN : Hid (∀ w9, Mm w9 M bu (us + 1 * s) (if pv then pn2 + 1 * s else pn2) (.map (some mb)) root → FrS (fun b => b = M) w8 w9 → MmAt w9 M mb root bu (L2 ++ [(e0, mkE k s pv)]) (n + 1) (fun y => F y ∨ y = e0) ∧ ME.Ok bu ((L2 ++ [(e0, mkE k s pv)]).map Prod.snd) ∧ w9.ownsRow wv.heap.size 34 4 gv gone.length (ME.kc gone) ∧ FrS F wv w9) := Lib.hid (fun w9 hm9 hf9 => by
    have hM8n : ∀ y, (∃ e p q, Nd w8 y e p q) → M ≠ y := fun y ⟨e', p', q', hn'⟩ => hM8.ne hn'
    have hsz9 : w5.heap.size < w9.heap.size := by
      have h1 := hN6.lt
      have h2 := hfr7.size
      have h3 := hfr8.size
      have h4 := hf9.size
      omega
    have hs2 : (L2 ++ [(e0, mkE k s pv)]).map Prod.snd = L2.map Prod.snd ++ [mkE k s pv] := by simp
    refine ⟨⟨⟨?_, hrg8.kept hf9 (fun z => hM8n root (hrg8.node root (by simp)) z.symm) (fun y hy z => hM8n y (hrg8.node y (List.mem_cons_of_mem _ hy)) z.symm), ?_, .inl hm5.mem.2.2.2.1, .inl hm5.mem.2.2.2.2⟩, .inl hm5.fM, fun y hy => ?_, fun y hy => ?_⟩, ?_, ?_, ?_⟩
    · rw [hs2, ME.sm_app, ME.pn_app, ME.sm_cons, ME.pn_cons, hus, hpn2]
      have e1 : us + (En.size (mkE k s pv) + ME.sm []) = us + 1 * s := by show us + (s + 0) = us + 1 * s; omega
      have e2 : pn2 + ((if (mkE k s pv).pin = true then (mkE k s pv).size else 0) + ME.pn []) = if pv = true then pn2 + 1 * s else pn2 := by
        show pn2 + ((if pv = true then s else 0) + 0) = _
        split <;> omega
      rw [e1, e2]
      exact hm9
    · rw [hlo]
      exact hO8.same (hf9.block mb hO8.lt (fun z => hmbM z))
    · simp only [List.map_append, List.map_cons, List.map_nil, List.mem_append, List.mem_cons, List.not_mem_nil, or_false] at hy
      exact hy.imp (hm5.fL y) id
    · rcases hy with hy | hy
      · have := hm5.lt y hy; omega
      · omega
    · rw [hs2]
      exact ok5.add (e := mkE k s pv) ⟨hs0, hs1⟩ (by rw [hus]; exact hsum1) hk (fun x hx => hkeys1 x hx)
    · have r6 := own_below hrow5 hb6
      have hob : ∀ q, gv.ownBlock = some q → wv.heap.size ≤ q ∧ q < w5.heap.size := hrow5.lt
      have hFv : ∀ y, F y → y < wv.heap.size := hmv.lt
      have r7 := hfr7.own r6 (fun q e z => by have := hob q e; rcases z with z | z; (have := hFv q z; omega); omega)
      have r8 := hfr8.own r7 (fun q e z => by have := hob q e; have := hFv mb hm5.mem.2.2.2.1; omega)
      exact hf9.own r8 (fun q e z => by have := hob q e; have := hFv M hm5.fM; omega)
    · have hwv : wv.heap.size ≤ e0 := by have := hf5.size; omega
      have f2 : FrS F wv w7 := (hf5.then hb6).over hfr7 (fun b hb => hb.imp id (fun z => by omega))
      exact (f2.trans (hfr8.mono (fun y hy => by rw [hy]; exact hm5.mem.2.2.2.1))).trans (hf9.mono (fun y hy => by rw [hy]; exact hm5.fM)))
  have HE0 : Hid (W.heap.size ≤ e0) := Lib.hid (by have h1 := HFV.out.size; have h2 := hf5.size; omega)
  clear hput hrr hmv okv hfit hno1 hl1 hsum1 hkeys1 hrm hm5 ok5 hrow5 hf5 b05 b15 hbe hn0 hb6 hb6' hN6 hm6 hnew hFl hnl hadd hne0 hfr7 hMn hbn hM7 hO7 hmbM hO8 ht8 hfr8 hM8 hrg8 hlk hlo hFk b18 hs5 hb1 hnn5 hpp5 hus hpn2 b06 b07 b0v b1v
  go_upto_region 19 with fail
  try rw [hw6]
  try rw [he0]
  clear hw6 he0 y0 y1 y2 y3 y4 y5
  go_wp2_with fail
  go_at_call 29
  refine HAD.out.mono ?_
  rintro x w7' ⟨rfl, rfl⟩
  clear HAD hw7 c46
  go_upto_region 20 with fail
  go_region_o
  clear c37 x0 x1 x2 x3 hrun
  go_wp2_with fail
  go_at_call 30
  refine HCN.out.mono ?_
  rintro x w9 ⟨rfl, hm9, hf9⟩
  have HE := Lib.hid (HFIN.out w9 hm9 hf9)
  clear HCN HFIN hm9 hf9 z0 z1 z2 z3 z4 z5
  have HE0 : Hid (W.heap.size ≤ e0 ∧ W.heap.size ≤ wv.heap.size) := Lib.hid ⟨HE0.out, HFV.out.size⟩
  go_wp2
  go_ret2
  obtain ⟨q1, q2, q3, q4⟩ := HE.out
  rw [HPUT.out]
  refine ⟨⟨gv, rfl, own_base q3 HE0.out.2⟩, ⟨_, n + 1, _, by rw [map_snd_app]; rfl, Nat.le_refl _, q1, q2, fun y hy => hy.imp id (fun z => by rw [z]; exact HE0.out.1)⟩, HFV.out.trans q4⟩
set_option maxHeartbeats 4000000 in
theorem put_none_full (W : World) (M mb root : Nat) (bu s : Int) (L : List (Nat × En)) (n : Nat) (F : Nat → Prop) (k : K4) (hk : K4ok k) (h : MmAt W M mb root bu L n F) (ok : ME.Ok bu (L.map Prod.snd)) (hs0 : 0 ≤ s) (hs1 : s ≤ 65536) (hn : n < 1000000000) (hlen : L.length ≤ 1000000) (hno : ∀ e ∈ L.map Prod.snd, e.key ≠ k) (hl : look L k = none) (hfit : bu < s + ME.pn (L.map Prod.snd)) :
    Calls Try.prog 17 #[ptr M, kyV k, .int .i64 s] W fun x w' => PutP W w' M mb root bu n F (ME.put bu k s (L.map Prod.snd)) x := by
  obtain ⟨PP, hPP⟩ : ∃ PP, ME.put bu k s (L.map Prod.snd) = PP := ⟨_, rfl⟩
  rw [hPP]
  have HPP := Lib.hid hPP
  clear hPP
  have HZ := Lib.hid fun V (hV : Below W.heap.size W V) => iszero_some V M bu _ _ mb root (h.below hV).mem.1
  have HFD := Lib.hid fun V (hV : Below W.heap.size W V) => find_any V M mb root bu L n F k hk (h.below hV)
  rw [hl] at HFD
  obtain ⟨B, hB⟩ : ∃ B, W.heap.size = B := ⟨_, rfl⟩
  have HF : Hid (∀ b, F b → b < B) := Lib.hid fun b hb => by rw [← hB]; exact h.lt b hb
  obtain ⟨W3, hW3, b0, b1, b2, hb3, hs3⟩ := three W (.cells #[.int .i64 k.1, .int .i64 k.2.1, .int .i64 k.2.2.1, .int .i64 k.2.2.2] 34) (.cells #[.int .i64 k.1, .int .i64 k.2.1, .int .i64 k.2.2.1, .int .i64 k.2.2.2, .int .i64 s, .bool false] 73) (.cells #[.int .i64 0, .int .i64 0, .int .i64 0, .int .i64 0, .int .i64 0, .bool false] 73) B hB
  have hbw : Below W.heap.size W W3 := by rw [hB]; exact hb3
  have g0 : ¬ s < 0 := by omega
  have g1 : ¬ 65536 < s := by omega
  have p0 : W3.cell? ⟨B, 0, none⟩ = some (.int .i64 k.1) := nd_cell b0 rfl
  have p1 : W3.cell? ⟨B, 1, none⟩ = some (.int .i64 k.2.1) := nd_cell b0 rfl
  have p2 : W3.cell? ⟨B, 2, none⟩ = some (.int .i64 k.2.2.1) := nd_cell b0 rfl
  have p3 : W3.cell? ⟨B, 3, none⟩ = some (.int .i64 k.2.2.2) := nd_cell b0 rfl
  have mixed : Try.prog.follows .mixedOrders = true := by kernel_rfl
  go_enter Try.func17, Try.ntmps17
  go_wp2_with fail
  go_at_call 32
  refine (HZ.out _ (balloc (Below.refl _ _) _)).mono ?_
  rintro x w1 ⟨rfl, rfl⟩
  go_wp2_with fail
  try rw [hW3]
  go_at_call 27
  refine (HFD.out W3 hbw).mono ?_
  rintro x wa ⟨rfl, hba⟩
  simp only [optP]
  clear p0 p1 p2 p3
  have hma := (h.below hbw).below hba
  have b0a := (hba.block B (by omega)).trans b0
  have b1a := (hba.block (B + 1) (by omega)).trans b1
  have b2a := (hba.block (B + 1 + 1) (by omega)).trans b2
  have hpin := hma.mem.1.cells.2.2.1
  have hbud := hma.mem.1.cells.1
  obtain ⟨pn, hpn⟩ : ∃ pn, ME.pn (L.map Prod.snd) = pn := ⟨_, rfl⟩
  have hsz := ok.sz
  have hpl := ME.pn_le hsz
  have hsu := ok.sum
  have hbb := ok.b1
  rw [hpn] at hpin hfit hpl
  have o5 : wa.cell? ⟨B + 1 + 1, 5, none⟩ = some (.bool false) := nd_cell b2a rfl
  have hwr : IntKind.i64.wrap (s + pn) = s + pn := IntWalk.i64_in _ (by omega)
  have hfull : bu < s + pn := by omega
  have x0 : wa.cell? ⟨B, 0, none⟩ = some (.int .i64 k.1) := nd_cell b0a rfl
  have x1 : wa.cell? ⟨B, 1, none⟩ = some (.int .i64 k.2.1) := nd_cell b0a rfl
  have x2 : wa.cell? ⟨B, 2, none⟩ = some (.int .i64 k.2.2.1) := nd_cell b0a rfl
  have x3 : wa.cell? ⟨B, 3, none⟩ = some (.int .i64 k.2.2.2) := nd_cell b0a rfl
  have hput : ME.put bu k s (L.map Prod.snd) = (L.map Prod.snd, [], 50) := by
    unfold ME.put
    rw [if_neg (by omega), ME.wo_none hno, if_pos (by rw [hpn]; omega)]
  rw [HPP.out] at hput
  have HPU := Lib.hid hput
  have HFI := Lib.hid (PutP.err (er := 50) hma ok (bnext hbw hba))
  clear hput x0 x1 x2 x3 hpn hsz hpl hsu hbb b0a b1a b2a hma hba b0 b1 b2 hb3 hbw hW3 hs3 ok hno hlen hl h HFD HZ
  go_wp2
  go_ret2
  rw [HPU.out]
  exact HFI.out
end Go.Proofs.Ytmnajongifdajaa
