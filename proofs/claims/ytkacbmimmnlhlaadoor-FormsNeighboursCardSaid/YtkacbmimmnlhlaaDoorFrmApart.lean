/- Plain facts: clusters and forms before and behind a character that nothing joins. No conditions. -/
import Derived.Test.YtkacbmimmnlhlaaDoorFrmPlain
namespace Go.Proofs.YtkacbmimmnlhlaaDoor.FP
open CP
theorem sp_apart {s t : ByteArray} (hg : grows s t = false) {m : List (Nat × Nat)} (hm : Sp (s ++ t) s.size m) : ∀ {f : Nat} {l : List (Nat × Nat)}, Sp s f l → Sp (s ++ t) f (l ++ m)
  | f, [], h => by have h : f = s.size := h; rw [h]; exact hm
  | f, x :: l, h => by
    obtain ⟨h1, rfl, h3⟩ := h
    have e : stop (s ++ t) f = stop s f := by
      by_cases h : stop s f < s.size
      · exact stop_l h1 h
      · have := stop_bd h1
        have h' : stop s f = s.size := by omega
        rw [h', stop_end h1 h' (fun ht => beg_behind (by omega) ht hg)]
    refine ⟨by rw [ByteArray.size_append]; omega, by rw [e], ?_⟩
    rw [e]
    exact sp_apart hg hm h3
theorem split_apart {s t : ByteArray} (hg : grows s t = false) : split (s ++ t) = split s ++ (split t).map (sh s.size) :=
  sp_uniq (sp_split _) (sp_apart hg (sp_r (sp_split t)) (sp_split s))
theorem ch_mid {a m b : ByteArray} (hm : m.size = 1) : ch (a ++ m ++ b) a.size = ch m 0 := by
  rw [ch_l (by rw [ByteArray.size_append]; omega)]
  have := ch_r (s := a) (t := m) (i := 0)
  rwa [Nat.add_zero] at this
theorem split_one {m : ByteArray} (hm : m.size = 1) : split m = [(0, 1)] := by
  unfold split
  rw [hm]
  have h := stop_bd (s := m) (f := 0) (by omega)
  unfold spans
  rw [if_pos (by omega), show stop m 0 = 1 by omega]
  unfold spans
  rfl
/-- A piece of the first text, and of the last one, has the same head and end in the whole. -/
theorem fst_l {s t : ByteArray} : ∀ g i, i + g ≤ s.size → fst (s ++ t) g i = fst s g i
  | 0, i, h => rfl
  | g + 1, i, h => by
    have e : ex (s ++ t) i = ex s i := by unfold ex; rw [ch_l (by omega)]
    rw [fst, fst, e, fst_l g (i + 1) (by omega)]
theorem fst_r {s t : ByteArray} : ∀ g i, fst (s ++ t) g (s.size + i) = (fst t g i).map (s.size + ·)
  | 0, i => rfl
  | g + 1, i => by
    have e : ex (s ++ t) (s.size + i) = ex t i := by unfold ex; rw [ch_r]
    rw [fst, fst, e, show s.size + i + 1 = s.size + (i + 1) by omega, fst_r g (i + 1)]
    cases ex t i <;> rfl
theorem hd_l {s t : ByteArray} {x : Nat × Nat} (h : x.1 < x.2) (hx : x.2 ≤ s.size) : hd (s ++ t) x = hd s x := by
  have e : base (s ++ t) (x.1 : Int) (x.2 : Int) = base s (x.1 : Int) (x.2 : Int) := by
    unfold base
    rw [if_neg (by rw [ByteArray.size_append]; omega), if_neg (by omega), fst_l _ _ (by omega)]
  obtain ⟨b, hb, h1, h2, _⟩ := base_spec h hx
  unfold hd cl
  rw [e, hb, show ((b : Nat) : Int).toNat = b by omega, ch_l (by omega)]
theorem hd_r {s t : ByteArray} {x : Nat × Nat} (h : x.1 < x.2) (hx : x.2 ≤ t.size) : hd (s ++ t) (sh s.size x) = hd t x := by
  obtain ⟨b, hb, h1, h2, _⟩ := base_spec h hx
  have e : base (s ++ t) ((sh s.size x).1 : Int) ((sh s.size x).2 : Int) = ((s.size + b : Nat) : Int) := by
    have hb2 := hb
    unfold base at hb2 ⊢
    rw [if_neg (by omega)] at hb2
    rw [if_neg (by rw [ByteArray.size_append]; unfold sh; simp only; omega), show (((sh s.size x).2 : Nat) : Int) - (((sh s.size x).1 : Nat) : Int) = ((x.2 : Int) - (x.1 : Int)) by unfold sh; simp only; omega, show (((sh s.size x).1 : Nat) : Int).toNat = s.size + x.1 by unfold sh; simp only; omega, fst_r]
    rw [show ((x.1 : Nat) : Int).toNat = x.1 by omega] at hb2
    cases hf : fst t ((x.2 : Int) - (x.1 : Int)).toNat x.1 with
    | none => rw [hf] at hb2; simp only [Option.map_none] at hb2 ⊢; rw [show (sh s.size x).1 = x.1 + s.size from rfl]; omega
    | some i => rw [hf] at hb2; simp only [Option.map_some] at hb2 ⊢; omega
  unfold hd cl
  rw [e, hb, show ((s.size + b : Nat) : Int).toNat = s.size + b by omega, show ((b : Nat) : Int).toNat = b by omega, ch_r]
theorem en_l {s t : ByteArray} {x : Nat × Nat} (h : x.1 < x.2) (hx : x.2 ≤ s.size) : en (s ++ t) x = en s x := by
  unfold en cl; rw [ch_l (by omega)]
theorem en_r {s t : ByteArray} {x : Nat × Nat} (h : x.1 < x.2) : en (s ++ t) (sh s.size x) = en t x := by
  unfold en cl sh; simp only; rw [show x.2 + s.size - 1 = s.size + (x.2 - 1) by omega, ch_r]
section
variable {a m b : ByteArray} (hm : m.size = 1) (hc : lt (cl m 0) = false ∧ cl m 0 ≠ 9 ∧ cl m 0 ≠ 10 ∧ ex m 0 = false) (hb : 0 < b.size → ex b 0 = false)
include hm hc hb
theorem split_mid : split (a ++ m ++ b) = split a ++ ((a.size, a.size + 1) :: (split b).map (sh (a.size + 1))) := by
  have hs : (a ++ m).size = a.size + 1 := by rw [ByteArray.size_append, hm]
  have g1 : grows a m = false := by
    unfold grows; rw [hc.2.2.2, decide_eq_false hc.2.1]; simp
  have g2 : grows (a ++ m) b = false := by
    unfold grows
    by_cases h0 : 0 < b.size
    · rw [hb h0, hs]
      have e : cl (a ++ m) (a.size + 1 - 1) = cl m 0 := by
        unfold cl; rw [Nat.add_sub_cancel]; have := ch_r (s := a) (t := m) (i := 0); rw [Nat.add_zero] at this; rw [this]
      rw [e, decide_eq_false hc.2.2.1]; simp
    · rw [decide_eq_false h0]; simp
  rw [split_apart g2, split_apart g1, split_one hm, hs, List.append_assoc]
  simp [sh, Nat.add_comm]
theorem forms_mid : forms (a ++ m ++ b) = forms a ++ 0 :: forms b := by
  have hS := split_mid (a := a) hm hc hb
  have hs : (a ++ m).size = a.size + 1 := by rw [ByteArray.size_append, hm]
  generalize hL : split (a ++ m ++ b) = L at hS
  have ha : ∀ x ∈ split a, x.1 < x.2 ∧ x.2 ≤ a.size := sp_mem (sp_split a)
  have hbm : ∀ x ∈ split b, x.1 < x.2 ∧ x.2 ≤ b.size := sp_mem (sp_split b)
  have hmid : hd (a ++ m ++ b) (a.size, a.size + 1) = cl m 0 := by
    have h1 : hd (a ++ m ++ b) (a.size, a.size + 1) = hd (a ++ m) (a.size, a.size + 1) := hd_l (by simp) (by rw [hs]; exact Nat.le_refl _)
    have h2 : hd (a ++ m) (sh a.size (0, 1)) = hd m (0, 1) := hd_r (by simp) (by simp [hm])
    rw [show sh a.size (0, 1) = (a.size, a.size + 1) by unfold sh; simp [Nat.add_comm]] at h2
    rw [h1, h2]
    obtain ⟨x, hx, _, h4, _⟩ := base_spec (s := m) (f := 0) (t := 1) (by omega) (by omega)
    unfold hd
    simp only
    rw [hx, show x = 0 by omega]; rfl
  have hget : ∀ k, L[k]? = if k < (split a).length then (split a)[k]? else if k = (split a).length then some (a.size, a.size + 1) else ((split b)[k - (split a).length - 1]?).map (sh (a.size + 1)) := by
    intro k
    rw [hS]
    by_cases h1 : k < (split a).length
    · rw [if_pos h1, List.getElem?_append_left h1]
    · rw [if_neg h1, List.getElem?_append_right (by omega)]
      by_cases h2 : k = (split a).length
      · rw [if_pos h2, h2, Nat.sub_self]; rfl
      · rw [if_neg h2, show k - (split a).length = (k - (split a).length - 1) + 1 by omega, List.getElem?_cons_succ, List.getElem?_map]
        rfl
  have fm : fol (a ++ m ++ b) L (split a).length = false := by
    rw [fol_at (x := (a.size, a.size + 1)) (by rw [hget, if_neg (by omega), if_pos rfl]), hmid, hc.1]
  have om : onx (a ++ m ++ b) L (split a).length = false := by
    cases h : onx (a ++ m ++ b) L (split a).length with
    | false => rfl
    | true => rw [onx_fol h] at fm; cases fm
  have fa : ∀ k, k ≤ (split a).length → fol (a ++ m ++ b) L k = fol a (split a) k := by
    intro k hk
    by_cases h1 : k < (split a).length
    · have hx : (split a)[k]? = some (split a)[k] := List.getElem?_eq_getElem h1
      have hq := ha _ (List.getElem_mem h1)
      rw [fol_at (x := (split a)[k]) (by rw [hget, if_pos h1, hx]), fol_at hx, ByteArray.append_assoc, hd_l hq.1 hq.2]
    · rw [show k = (split a).length by omega, fm, fol_no (Nat.le_refl _)]
  have oa : ∀ k, k < (split a).length → onx (a ++ m ++ b) L k = onx a (split a) k := by
    intro k h1
    have hx : (split a)[k]? = some (split a)[k] := List.getElem?_eq_getElem h1
    have hq := ha _ (List.getElem_mem h1)
    rw [onx_at (x := (split a)[k]) (by rw [hget, if_pos h1, hx]), onx_at hx, fa _ (by omega), ByteArray.append_assoc, hd_l hq.1 hq.2, en_l hq.1 hq.2]
  have fb : ∀ j, fol (a ++ m ++ b) L ((split a).length + 1 + j) = fol b (split b) j := by
    intro j
    have hg : L[(split a).length + 1 + j]? = ((split b)[j]?).map (sh (a.size + 1)) := by
      rw [hget, if_neg (by omega), if_neg (by omega), show (split a).length + 1 + j - (split a).length - 1 = j by omega]
    by_cases h1 : j < (split b).length
    · have hx : (split b)[j]? = some (split b)[j] := List.getElem?_eq_getElem h1
      have hq := hbm _ (List.getElem_mem h1)
      rw [hx] at hg
      rw [fol_at hg, fol_at hx, ← hs, hd_r hq.1 hq.2]
    · have hn : (split b)[j]? = none := List.getElem?_eq_none (by omega)
      rw [hn] at hg
      rw [fol_no (by omega : (split b).length ≤ j)]
      unfold fol
      rw [hg]; rfl
  have ob : ∀ j, onx (a ++ m ++ b) L ((split a).length + 1 + j) = onx b (split b) j := by
    intro j
    have hg : L[(split a).length + 1 + j]? = ((split b)[j]?).map (sh (a.size + 1)) := by
      rw [hget, if_neg (by omega), if_neg (by omega), show (split a).length + 1 + j - (split a).length - 1 = j by omega]
    by_cases h1 : j < (split b).length
    · have hx : (split b)[j]? = some (split b)[j] := List.getElem?_eq_getElem h1
      have hq := hbm _ (List.getElem_mem h1)
      rw [hx] at hg
      rw [onx_at hg, onx_at hx, show (split a).length + 1 + j + 1 = (split a).length + 1 + (j + 1) by omega, fb, ← hs, hd_r hq.1 hq.2, en_r hq.1]
    · have hn : (split b)[j]? = none := List.getElem?_eq_none (by omega)
      rw [hn] at hg
      unfold onx
      rw [hg, hn]; rfl
  have hlen : L.length = (split a).length + 1 + (split b).length := by
    rw [hS, List.length_append, List.length_cons, List.length_map]; omega
  have e0 : forms (a ++ m ++ b) = (List.range L.length).map (frm (a ++ m ++ b) L) := by rw [forms, hL]
  rw [e0]
  apply List.ext_getElem?
  intro k
  by_cases hk : k < L.length
  · rw [List.getElem?_map, List.getElem?_range hk]
    show some (frm (a ++ m ++ b) L k) = _
    by_cases h1 : k < (split a).length
    · rw [List.getElem?_append_left (by rw [forms_length]; exact h1), forms_get h1]
      unfold frm tox
      rw [fa k (by omega), oa k h1]
      by_cases h0 : 0 < k
      · rw [oa (k - 1) (by omega)]
      · rw [decide_eq_false h0]; rfl
    · rw [List.getElem?_append_right (by rw [forms_length]; omega), forms_length]
      by_cases h2 : k = (split a).length
      · rw [h2, Nat.sub_self]
        unfold frm
        rw [fm]; rfl
      · obtain ⟨j, rfl⟩ : ∃ j, k = (split a).length + 1 + j := ⟨k - (split a).length - 1, by omega⟩
        rw [show (split a).length + 1 + j - (split a).length = j + 1 by omega, List.getElem?_cons_succ, forms_get (by omega)]
        unfold frm tox
        rw [fb, ob]
        cases j with
        | zero =>
          rw [show (split a).length + 1 + 0 - 1 = (split a).length by omega, om]
          simp
        | succ j =>
          rw [show (split a).length + 1 + (j + 1) - 1 = (split a).length + 1 + j by omega, ob, Nat.add_sub_cancel, decide_eq_true (show 0 < (split a).length + 1 + (j + 1) by omega), decide_eq_true (show 0 < j + 1 by omega)]
  · rw [List.getElem?_eq_none (by rw [List.length_map, List.length_range]; omega), List.getElem?_eq_none (by rw [List.length_append, List.length_cons, forms_length, forms_length]; omega)]
end
end Go.Proofs.YtkacbmimmnlhlaaDoor.FP
