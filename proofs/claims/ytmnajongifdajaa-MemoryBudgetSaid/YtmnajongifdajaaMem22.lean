/- The reference's memory: its row; finding a key. No conditions. -/
import Derived.Test.YtmnajongifdajaaMem21
import Derived.Test.YtmnajongifdajaaMem20
namespace Go.Proofs.Ytmnajongifdajaa.ME
set_option linter.unusedVariables false
def kpL (e : En) : List Value := [.int .i64 e.f, .int .i64 e.k, .int .i64 e.n, .int .i64 e.r, .int .i64 e.size, .bool e.pin]
def kp (P : List En) : List Value := P.flatMap kpL
theorem kpL_len (e : En) : (kpL e).length = 6 := rfl
theorem kp_app (A C : List En) : kp (A ++ C) = kp A ++ kp C := List.flatMap_append
theorem kp_one (l : List En) : ∀ u ∈ kp l, u.oneCell' = true := fun u hu => by
  obtain ⟨p, -, h⟩ := List.mem_flatMap.1 hu
  unfold kpL at h
  simp at h
  rcases h with rfl | rfl | rfl | rfl | rfl | rfl <;> rfl
/-- The place of a key, from i on. -/
def fiF (k : K4) : List En → Nat → Int
  | [], _ => -1
  | e :: P, i => if e.key = k then (i : Int) else fiF k P (i + 1)
def fi (k : K4) (P : List En) : Int := fiF k P 0
theorem fiF_none {k : K4} : ∀ {P : List En} {i : Nat}, (∀ e ∈ P, e.key ≠ k) → fiF k P i = -1
  | [], _, _ => rfl
  | e :: P, i, h => by
    unfold fiF
    rw [if_neg (h e (by simp))]
    exact fiF_none fun x hx => h x (by simp [hx])
theorem fiF_mid {k : K4} {e : En} {C : List En} (he : e.key = k) : ∀ {A : List En} {i : Nat}, (∀ x ∈ A, x.key ≠ k) → fiF k (A ++ e :: C) i = ((i + A.length : Nat) : Int)
  | [], i, _ => by
    show (if e.key = k then (i : Int) else _) = _
    rw [if_pos he]
    simp
  | a :: A, i, h => by
    show (if a.key = k then (i : Int) else fiF k (A ++ e :: C) (i + 1)) = _
    rw [if_neg (h a (by simp)), fiF_mid he (fun x hx => h x (by simp [hx])), List.length_cons]
    congr 1
    omega
theorem fi_none {k : K4} {P : List En} (h : ∀ e ∈ P, e.key ≠ k) : fi k P = -1 := fiF_none h
theorem fi_mid {k : K4} {A C : List En} {e : En} (he : e.key = k) (h : ∀ x ∈ A, x.key ≠ k) : fi k (A ++ e :: C) = (A.length : Nat) := by
  unfold fi
  rw [fiF_mid he h, Nat.zero_add]
end Go.Proofs.Ytmnajongifdajaa.ME
namespace Go.Proofs.Ytmnajongifdajaa
set_option maxRecDepth 100000
set_option linter.unusedVariables false
open Go.RowKit Go.Deep ME
/-- The reference's memory, within the blocks G. -/
structure RrAt (W : World) (r : Nat) (bu : Int) (P : List En) (G : Nat → Prop) : Prop where
  mem : ∃ v, W.heap[r]? = some (.cells #[.bool true, .int .i64 bu, v] 53 (0, 0)) ∧ W.ownsRow 0 55 6 v P.length (ME.kp P) ∧ ∀ q, v.ownBlock = some q → G q ∧ r ≠ q
  gr : G r
  lt : ∀ b, G b → b < W.heap.size
theorem RrAt.kept {S : Nat → Prop} {W W' : World} {r : Nat} {bu : Int} {P : List En} {G : Nat → Prop} (h : RrAt W r bu P G) (hf : FrS S W W') (hs : ∀ b, G b → ¬ S b) : RrAt W' r bu P G := by
  obtain ⟨⟨v, h1, h2, h3⟩, h4, h5⟩ := h
  exact ⟨⟨v, (hf.block r (h5 r h4) (hs r h4)).trans h1, hf.own h2 (fun q e x => hs q (h3 q e).1 x), h3⟩, h4, fun b hb => Nat.lt_of_lt_of_le (h5 b hb) hf.size⟩
theorem RrAt.below {W W' : World} {r : Nat} {bu : Int} {P : List En} {G : Nat → Prop} (h : RrAt W r bu P G) (hb : Below W.heap.size W W') : RrAt W' r bu P G := h.kept (S := fun _ => False) (FrS.of hb) (fun _ _ x => x)
theorem kept_at {W : World} {B n c : Nat} {a : Option Addr} {P : List En} (h : W.ownsRow B 55 6 (.slice a n c) n (ME.kp P)) {i : Nat} {e : En} (he : P[i]? = some e) (hi : i < n) :
    ∃ g, a = some ⟨g, 0, none⟩ ∧ g < W.heap.size ∧ W.cell? ⟨g, i * 6, none⟩ = some (.int .i64 e.f) ∧ W.cell? ⟨g, i * 6 + 1, none⟩ = some (.int .i64 e.k) ∧ W.cell? ⟨g, i * 6 + 2, none⟩ = some (.int .i64 e.n) ∧ W.cell? ⟨g, i * 6 + 3, none⟩ = some (.int .i64 e.r) ∧ W.cell? ⟨g, i * 6 + 4, none⟩ = some (.int .i64 e.size) ∧ W.cell? ⟨g, i * 6 + 5, none⟩ = some (.bool e.pin) := by
  rcases h.2 with ⟨hv, h0⟩ | ⟨g, cap, cur, hv, hb, hg, _⟩
  · omega
  · have hs := own_srcN h
    injection hv with hv _ _
    subst hv
    obtain ⟨ao, c', e1, hl, h1⟩ := hs
    injection e1 with e1 _ _
    subst e1
    rcases h1 with ⟨h1, _⟩ | ⟨g', o, e2, hgl, hc⟩
    · omega
    · injection e2 with e2
      injection e2 with e2 e3
      subst e2 e3
      have k := fun (j : Nat) (u : Value) (hu : (ME.kpL e)[j]? = some u) => hc (i * 6 + j) u (flat_at ME.kpL_len P i e j u he hu)
      simp only [Nat.zero_add] at k
      exact ⟨g, rfl, hgl, k 0 _ rfl, k 1 _ rfl, k 2 _ rfl, k 3 _ rfl, k 4 _ rfl, k 5 _ rfl⟩
theorem rmem_cells {W : World} {r : Nat} {bu : Int} {v : Value} (h : W.heap[r]? = some (.cells #[.bool true, .int .i64 bu, v] 53 (0, 0))) : W.cell? ⟨r, 0, none⟩ = some (.bool true) ∧ W.cell? ⟨r, 1, none⟩ = some (.int .i64 bu) ∧ W.cell? ⟨r, 2, none⟩ = some v :=
  ⟨nd_cell h rfl, nd_cell h rfl, nd_cell h rfl⟩
set_option maxHeartbeats 2000000 in
theorem rfind_any (W : World) (r : Nat) (bu : Int) (P : List En) (G : Nat → Prop) (k : K4) (h : RrAt W r bu P G) (hlen : P.length ≤ 1000000) :
    Calls Try.prog 40 #[ptr r, kyV k] W fun x w' => x = .returned (.int .i64 (ME.fi k P)) ∧ Below W.heap.size W w' := by
  obtain ⟨⟨v, hr, hrow, -⟩, -, -⟩ := h
  obtain ⟨va, vc, rfl⟩ := own_shape hrow
  obtain ⟨n, hn⟩ : ∃ n, P.length = n := ⟨_, rfl⟩
  rw [hn] at hr hrow hlen
  have HN := Lib.hid hn
  have bx := heap_alloc_new W (.cells #[.int .i64 k.1, .int .i64 k.2.1, .int .i64 k.2.2.1, .int .i64 k.2.2.2] 34)
  have hb := balloc (Below.refl _ W) (.cells #[.int .i64 k.1, .int .i64 k.2.1, .int .i64 k.2.2.1, .int .i64 k.2.2.2] 34)
  obtain ⟨X, hX⟩ : ∃ X, W.heap.size = X := ⟨_, rfl⟩
  obtain ⟨W1, hW1⟩ : ∃ W1, W.alloc (.cells #[.int .i64 k.1, .int .i64 k.2.1, .int .i64 k.2.2.1, .int .i64 k.2.2.2] 34) = W1 := ⟨_, rfl⟩
  rw [hW1] at bx hb
  have hr1 := (hb.block r (Array.getElem?_eq_some_iff.1 hr).1).trans hr
  have hrow1 := own_below hrow hb
  have HB := Lib.hid hb
  rw [hX] at bx
  have HR := Lib.hid hr1
  have HROW := Lib.hid hrow1
  have HBX := Lib.hid bx
  clear hn hr hrow hb bx hr1 hrow1
  go_enter Try.func40, Try.ntmps40
  go_wp2
  try rw [hW1]
  try rw [hX]
  clear hW1
  go_loopw [5] (fun v5 wr => ∃ i : Nat, v5 = .int .i64 (i : Int) ∧ i ≤ n ∧ Hid (ME.fi k P = ME.fiF k (P.drop i) i) ∧ Hid (∃ nq, wr = W1.drewN nq)) (fun v _ => n - (intOf v).toNat)
  case atStart => exact ⟨0, rfl, Nat.zero_le _, Lib.hid rfl, Lib.hid ⟨0, rfl⟩⟩
  case round =>
    obtain ⟨i, rfl, hi, HF, HQ⟩ := hrel
    obtain ⟨n0, rfl⟩ := HQ.out
    obtain ⟨c0, c1, c2⟩ := rmem_cells HR.out
    have c2' : (W1.drewN n0).cell? ⟨r, 2, none⟩ = some (.slice va n vc) := c2
    by_cases hin : i < n
    · have hii : (i : Int) < (n : Int) := by omega
      have hi0 : (0 : Int) ≤ (i : Int) := by omega
      obtain ⟨e, he⟩ : ∃ e, P[i]? = some e := ⟨P[i]'(by rw [HN.out]; exact hin), List.getElem?_eq_getElem _⟩
      obtain ⟨g, rfl, -, k0, k1, k2, k3, -, -⟩ := kept_at HROW.out he hin
      have x0 : W1.cell? ⟨X, 0, none⟩ = some (.int .i64 k.1) := nd_cell HBX.out rfl
      have x1 : W1.cell? ⟨X, 1, none⟩ = some (.int .i64 k.2.1) := nd_cell HBX.out rfl
      have x2 : W1.cell? ⟨X, 2, none⟩ = some (.int .i64 k.2.2.1) := nd_cell HBX.out rfl
      have x3 : W1.cell? ⟨X, 3, none⟩ = some (.int .i64 k.2.2.2) := nd_cell HBX.out rfl
      have hdr : P.drop i = e :: P.drop (i + 1) := by
        obtain ⟨hl, he'⟩ := List.getElem?_eq_some_iff.1 he
        rw [← he']
        exact List.drop_eq_getElem_cons hl
      obtain ⟨d, hd⟩ : ∃ d, decide (e.key = k) = d := ⟨_, rfl⟩
      have heq : ∀ w, (binOp .eql 34 (.agg #[.int .i64 e.f, .int .i64 e.k, .int .i64 e.n, .int .i64 e.r]) (.agg #[.int .i64 k.1, .int .i64 k.2.1, .int .i64 k.2.2.1, .int .i64 k.2.2.2])).run Try.prog w = .ok (.bool d) w := fun w => by rw [← hd]; exact eq_ow w e.key k
      have hst : Hid (ME.fiF k (P.drop i) i = if d = true then (i : Int) else ME.fiF k (P.drop (i + 1)) (i + 1)) := Lib.hid (by
        rw [hdr, ← hd]
        show (if e.key = k then _ else _) = _
        by_cases hk : e.key = k <;> simp [hk])
      clear he hdr hd
      go_wp2
      go_quiet (fail)
      cases d with
      | true =>
        have HFI : Hid (ME.fi k P = (i : Int)) := Lib.hid (by rw [HF.out, hst.out]; rfl)
        clear k0 k1 k2 k3 x0 x1 x2 x3
        go_wp2
        go_ret
        exact ⟨ret1 HFI.out.symm, ⟨HB.out.os, HB.out.tape, HB.out.output, HB.out.size, fun b hb => HB.out.block b (by first | exact hb | (rw [hX]; exact hb))⟩⟩
      | false =>
        have HFI : Hid (ME.fi k P = ME.fiF k (P.drop (i + 1)) (i + 1)) := Lib.hid (by rw [HF.out, hst.out]; rfl)
        clear k0 k1 k2 k3 x0 x1 x2 x3
        go_wp2
        go_roundw
        case rel => exact ⟨i + 1, by go_num, hin, HFI, Lib.hid ⟨n0 + nq, rfl⟩⟩
        case measure => simp [intOf]; omega
    · obtain rfl : n = i := by omega
      have HFI : Hid (ME.fi k P = -1) := Lib.hid (by rw [HF.out, ← HN.out, List.drop_length]; rfl)
      go_wp2
      go_ret
      exact ⟨ret1 HFI.out.symm, ⟨HB.out.os, HB.out.tape, HB.out.output, HB.out.size, fun b hb => HB.out.block b (by first | exact hb | (rw [hX]; exact hb))⟩⟩
end Go.Proofs.Ytmnajongifdajaa
