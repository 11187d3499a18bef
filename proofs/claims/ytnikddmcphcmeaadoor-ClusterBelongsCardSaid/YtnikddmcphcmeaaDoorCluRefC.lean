/- The contracts of the reference's At, Base and Same. -/
import Derived.Test.YtnikddmcphcmeaaDoorCluRefB
namespace Go.Proofs.YtnikddmcphcmeaaDoor
open Go.RowKit Go.Shelf
namespace CP
/-- These clusters follow each other from f to e. -/
def Ch : Nat → List (Nat × Nat) → Nat → Prop
  | f, [], e => f = e
  | f, x :: l, e => x.1 = f ∧ f < x.2 ∧ Ch x.2 l e
theorem ch_spans (s : ByteArray) : ∀ g f, f ≤ s.size → s.size ≤ f + g → Ch f (spans s g f) s.size
  | 0, f, h, hg => by show f = s.size; omega
  | g + 1, f, h, hg => by
    unfold spans
    by_cases hf : f < s.size
    · rw [if_pos hf]
      have := stop_bd hf
      exact ⟨rfl, this.1, ch_spans s g _ this.2 (by omega)⟩
    · rw [if_neg hf]; show f = s.size; omega
theorem ch_split (s : ByteArray) : Ch 0 (split s) s.size := ch_spans s _ _ (Nat.zero_le _) (by omega)
/-- The first of these clusters that contains i, counted from k. -/
def fd (i : Int) : List (Nat × Nat) → Nat → Int
  | [], _ => -1
  | x :: l, k => if (x.1 : Int) ≤ i ∧ i < (x.2 : Int) then (k : Int) else fd i l (k + 1)
theorem fd_ch {i : Int} : ∀ {f : Nat} {l : List (Nat × Nat)} {e : Nat} (k : Nat), Ch f l e → (f : Int) ≤ i → fd i l k = if i < (e : Int) then ((k + upto l i : Nat) : Int) else -1
  | f, [], e, k, h, hf => by
    obtain rfl : f = e := h
    rw [if_neg (by omega)]; rfl
  | f, x :: l, e, k, h, hf => by
    obtain ⟨h1, h2, h3⟩ := h
    have hxe : x.2 ≤ e := by
      clear hf h1 h2
      generalize x.2 = a at h3
      induction l generalizing a with
      | nil => exact Nat.le_of_eq h3
      | cons y l ih => obtain ⟨a1, a2, a3⟩ := h3; have := ih _ a3; omega
    unfold fd
    by_cases hi : i < (x.2 : Int)
    · rw [if_pos ⟨by omega, hi⟩, if_pos (by omega)]
      unfold upto
      rw [List.takeWhile_cons, if_neg (by simp; omega)]; rfl
    · rw [if_neg (by omega), fd_ch (k + 1) h3 (by omega)]
      split
      · have : upto (x :: l) i = upto l i + 1 := by
          unfold upto
          rw [List.takeWhile_cons, if_pos (by simp; omega)]; rfl
        rw [this]; congr 1; omega
      · rfl
theorem fd_neg {i : Int} (hi : i < 0) : ∀ (l : List (Nat × Nat)) (k : Nat), fd i l k = -1
  | [], _ => rfl
  | x :: l, k => by unfold fd; rw [if_neg (by omega)]; exact fd_neg hi l (k + 1)
theorem fd_at (s : ByteArray) (i : Int) : fd i (split s) 0 = at' s i := by
  unfold at'
  by_cases h : i < 0
  · rw [fd_neg h, if_pos (.inl h)]
  · rw [fd_ch 0 (ch_split s) (by omega)]
    by_cases h2 : i < (s.size : Int)
    · rw [if_pos h2, if_neg (by omega), Nat.zero_add]
    · rw [if_neg h2, if_pos (.inr (by omega))]
theorem spc_at : ∀ (l : List (Nat × Nat)) (i : Nat) (x : Nat × Nat), l[i]? = some x → (spc l)[i * 2]? = some (.int .i64 (x.1 : Int)) ∧ (spc l)[i * 2 + 1]? = some (.int .i64 (x.2 : Int))
  | [], i, x, h => by simp at h
  | y :: l, 0, x, h => by
    obtain rfl : y = x := by simpa using h
    exact ⟨rfl, rfl⟩
  | y :: l, i + 1, x, h => by
    have := spc_at l i x (by simpa using h)
    rw [show (i + 1) * 2 = i * 2 + 1 + 1 by omega]
    exact this
theorem fd_stop {i : Int} {l : List (Nat × Nat)} {k : Nat} {x : Nat × Nat} (hx : l[k]? = some x) (h : (x.1 : Int) ≤ i ∧ i < (x.2 : Int)) : fd i (l.drop k) k = (k : Int) := by
  obtain ⟨hk, rfl⟩ := List.getElem?_eq_some_iff.1 hx
  rw [List.drop_eq_getElem_cons hk, fd, if_pos h]
theorem fd_on {i : Int} {l : List (Nat × Nat)} {k : Nat} {x : Nat × Nat} (hx : l[k]? = some x) (h : ¬ ((x.1 : Int) ≤ i ∧ i < (x.2 : Int))) : fd i (l.drop k) k = fd i (l.drop (k + 1)) (k + 1) := by
  obtain ⟨hk, rfl⟩ := List.getElem?_eq_some_iff.1 hx
  rw [List.drop_eq_getElem_cons hk, fd, if_neg h]
end CP
/-- A slice of pieces that lies there. -/
def SrcP (w : World) (v : Value) (l : List (Nat × Nat)) : Prop := ∃ ao c, v = .slice ao l.length c ∧ (l = [] ∨ ∃ g, ao = some ⟨g, 0, none⟩ ∧ g < w.heap.size ∧ ∀ i x, l[i]? = some x → w.cell? ⟨g, i * 2, none⟩ = some (.int .i64 (x.1 : Int)) ∧ w.cell? ⟨g, i * 2 + 1, none⟩ = some (.int .i64 (x.2 : Int)))
theorem SrcP.keep {w w' : World} {v : Value} {l : List (Nat × Nat)} (h : SrcP w v l) (hb : Below w.heap.size w w') : SrcP w' v l := by
  obtain ⟨a, c, rfl, h | ⟨g, rfl, hg, hc⟩⟩ := h
  · exact ⟨a, c, rfl, .inl h⟩
  · exact ⟨_, c, rfl, .inr ⟨g, rfl, Nat.lt_of_lt_of_le hg hb.size, fun i x hx => ⟨(hb.cell (p := ⟨g, i * 2, none⟩) hg).trans (hc i x hx).1, (hb.cell (p := ⟨g, i * 2 + 1, none⟩) hg).trans (hc i x hx).2⟩⟩⟩
theorem addr_add (g i : Nat) : ((⟨g, 0, none⟩ : Addr).add i) = ⟨g, i, none⟩ := by cases i <;> simp [Addr.add]
theorem own_srcP {w : World} {B e : Nat} {v : Value} {l : List (Nat × Nat)} (h : w.ownsRow B e 2 v l.length (spc l)) : SrcP w v l := by
  rcases h.2 with ⟨hv, hn⟩ | ⟨g, cap, cur, hv, hb, hg, _⟩
  · exact ⟨none, 0, by rw [hv, hn], .inl (List.eq_nil_of_length_eq_zero hn)⟩
  · subst hv
    refine ⟨_, cap, rfl, .inr ⟨g, rfl, (Array.getElem?_eq_some_iff.1 hg).1, fun i x hx => ?_⟩⟩
    obtain ⟨a1, a2⟩ := CP.spc_at l i x hx
    have c1 := h.cells (g := g) rfl _ _ a1
    have c2 := h.cells (g := g) rfl _ _ a2
    rw [addr_add] at c1 c2
    exact ⟨c1, c2⟩
set_option maxRecDepth 100000 in
set_option maxHeartbeats 4000000 in
theorem rat_any (s : ByteArray) (i : Int) (w : World) (hs : s.size ≤ 1000000000) :
    Calls Tryd.prog 16 #[.string s, .int .i64 i] w fun e W' => e = .returned (.int .i64 (CP.at' s i)) ∧ Below w.heap.size w W' := by
  have HV := Lib.hid (CP.fd_at s i)
  have HS := Lib.hid (rsplit_any s w hs)
  have hlen0 := CP.split_length s
  generalize hl : CP.split s = l at HV HS hlen0
  generalize hr : CP.at' s i = r at HV ⊢
  have hlen : l.length ≤ 1000000000 := by omega
  clear hl hr hlen0
  go_enter Tryd.func16, Tryd.ntmps16
  go_wp2_with fail
  refine HS.out.mono ?_
  rintro e w1 ⟨v, rfl, hown, hb1⟩
  obtain ⟨ao, c, rfl, hsrc⟩ := own_srcP hown
  clear hown
  go_wp2
  go_loopw [6] (fun v6 wr => ∃ k : Nat, v6 = .int .i64 k ∧ k ≤ l.length ∧ Hid (CP.fd i (l.drop k) k = r) ∧ wr = w1) (fun v _ => l.length - (intOf v).toNat)
  case atStart => exact ⟨0, rfl, Nat.zero_le _, Lib.hid (by rw [List.drop_zero]; exact HV.out), rfl⟩
  case round =>
    obtain ⟨k, rfl, hk, HN, rfl⟩ := hrel
    by_cases hkl : k < l.length
    · have hki : (k : Int) < (l.length : Int) := by omega
      obtain ⟨x, hx⟩ : ∃ x, l[k]? = some x := ⟨l[k], List.getElem?_eq_getElem hkl⟩
      rcases hsrc with rfl | ⟨g, rfl, hg, hc⟩
      · simp at hkl
      · obtain ⟨c1, c2⟩ := hc k x hx
        have HC := Lib.hid hc
        clear hc
        by_cases hi1 : (x.1 : Int) ≤ i
        · by_cases hi2 : i < (x.2 : Int)
          · have HR := Lib.hid (CP.fd_stop hx ⟨hi1, hi2⟩)
            rw [HN.out] at HR
            clear hx HN
            go_wp2
            go_ret
            exact ⟨by rw [HR.out]; rfl, hb1⟩
          · have HN2 := Lib.hid ((CP.fd_on hx (fun h => hi2 h.2)).symm.trans HN.out)
            clear hx HN
            go_wp2
            go_roundw
            case rel => exact ⟨k + 1, by go_num, by omega, HN2, trivial⟩
            case measure => simp [intOf]; omega
        · have HN2 := Lib.hid ((CP.fd_on hx (fun h => hi1 h.1)).symm.trans HN.out)
          clear hx HN
          go_wp2
          go_roundw
          case rel => exact ⟨k + 1, by go_num, by omega, HN2, trivial⟩
          case measure => simp [intOf]; omega
    · obtain rfl : k = l.length := by omega
      have HR : Hid (r = -1) := Lib.hid (by rw [← HN.out, List.drop_length]; rfl)
      clear HN
      go_wp2
      go_ret
      exact ⟨by rw [HR.out]; rfl, hb1⟩
end Go.Proofs.YtnikddmcphcmeaaDoor
