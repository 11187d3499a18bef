/- Plain facts for the laws of breaks. No conditions. -/
import Derived.Test.YtcocnmpnbolpmaaDoorBrkSane
namespace Go.Proofs.YtcocnmpnbolpmaaDoor
namespace CP
theorem ex_l {s t : ByteArray} {i : Nat} (h : i < s.size) : ex (s ++ t) i = ex s i := by unfold ex; rw [ch_l h]
theorem ex_r {s t : ByteArray} {i : Nat} : ex (s ++ t) (s.size + i) = ex t i := by unfold ex; rw [ch_r]
theorem fst_l {s t : ByteArray} : ∀ (g i : Nat), i + g ≤ s.size → fst (s ++ t) g i = fst s g i
  | 0, i, h => rfl
  | g + 1, i, h => by
    rw [fst, fst, ex_l (by omega), fst_l g (i + 1) (by omega)]
theorem fst_r {s t : ByteArray} : ∀ (g i : Nat), fst (s ++ t) g (s.size + i) = (fst t g i).map (s.size + ·)
  | 0, i => rfl
  | g + 1, i => by
    rw [fst, fst, ex_r]
    split
    · exact fst_r g (i + 1)
    · rfl
/-- Where something begins behind a text whatever came before. -/
theorem sp_app {s t : ByteArray} (hbg : ∀ f, beg (s ++ t) f s.size = true) {m : List (Nat × Nat)} (hm : Sp (s ++ t) s.size m) : ∀ {f : Nat} {l : List (Nat × Nat)}, Sp s f l → Sp (s ++ t) f (l ++ m)
  | f, [], h => by have h : f = s.size := h; rw [h]; exact hm
  | f, x :: l, h => by
    obtain ⟨h1, rfl, h3⟩ := h
    have e : stop (s ++ t) f = stop s f := by
      by_cases h : stop s f < s.size
      · exact stop_l h1 h
      · have := stop_bd h1
        have h' : stop s f = s.size := by omega
        rw [h', stop_end h1 h' (fun _ => hbg f)]
    refine ⟨by rw [ByteArray.size_append]; omega, by rw [e], ?_⟩
    rw [e]
    exact sp_app hbg hm h3
def nl : ByteArray := ⟨#[10]⟩
theorem nl_size : nl.size = 1 := rfl
theorem ch_nl : ch nl 0 = 10 := rfl
theorem split_nl (s : ByteArray) : split (s ++ nl) = split s ++ [(s.size, s.size + 1)] := by
  have hc : ch (s ++ nl) s.size = 10 := by have := ch_r (s := s) (t := nl) (i := 0); rw [Nat.add_zero] at this; rw [this, ch_nl]
  have hb : ∀ f, beg (s ++ nl) f s.size = true := fun f => by
    unfold beg cl ex
    rw [hc, show FC.cls 10 = 1 from FC.cls_10 rfl, show FC.extB 10 = false by decide +kernel]
    simp
  have hst : stop (s ++ nl) s.size = s.size + 1 := stop_uniq (by omega) (by rw [ByteArray.size_append, nl_size]; omega) (fun j a b => by omega) (fun h => by rw [ByteArray.size_append, nl_size] at h; omega)
  have hm : Sp (s ++ nl) s.size [(s.size, s.size + 1)] := by
    refine ⟨by rw [ByteArray.size_append, nl_size]; omega, by rw [hst], ?_⟩
    rw [hst]
    show _ = _
    rw [ByteArray.size_append, nl_size]
  exact sp_uniq (sp_split _) (sp_app hb hm (sp_split s))
theorem split_three (s t : ByteArray) : split (s ++ nl ++ t) = split s ++ (s.size, s.size + 1) :: (split t).map (sh (s.size + 1)) := by
  have h0 : 0 < (s ++ nl).size := by rw [ByteArray.size_append, nl_size]; omega
  have hl : cl (s ++ nl) ((s ++ nl).size - 1) = 1 := by
    unfold cl
    rw [show (s ++ nl).size - 1 = s.size + 0 by rw [ByteArray.size_append, nl_size]; omega, ch_r, ch_nl]
    exact FC.cls_10 rfl
  rw [split_lines h0 hl, split_nl, List.append_assoc, ByteArray.size_append, nl_size]; rfl
end CP
namespace BP
open CP
theorem hd_eq {s : ByteArray} {x : Nat × Nat} (h1 : x.1 < x.2) (h2 : x.2 ≤ s.size) : hd s x = ch s ((fst s (x.2 - x.1) x.1).getD x.1) := by
  unfold hd
  cases e : fst s (x.2 - x.1) x.1 with
  | none => rw [base_none h1 h2 e]; rfl
  | some i => rw [base_some h1 h2 e]; rfl
theorem hd_l {s t : ByteArray} {x : Nat × Nat} (h1 : x.1 < x.2) (h2 : x.2 ≤ s.size) : hd (s ++ t) x = hd s x := by
  rw [hd_eq h1 h2, hd_eq h1 (by rw [ByteArray.size_append]; omega), fst_l _ _ (show x.1 + (x.2 - x.1) ≤ s.size by omega)]
  rcases fst_spec s (x.2 - x.1) x.1 with ⟨b, e, _, hb, _⟩ | ⟨e, _⟩
  · rw [e]; exact ch_l (show b < s.size by omega)
  · rw [e]; exact ch_l (show x.1 < s.size by omega)
theorem hd_r {s t : ByteArray} {x : Nat × Nat} (h1 : x.1 < x.2) (h2 : x.2 ≤ t.size) : hd (s ++ t) (sh s.size x) = hd t x := by
  rw [hd_eq h1 h2, hd_eq (by unfold sh; simp; omega) (by unfold sh; rw [ByteArray.size_append]; simp; omega)]
  have e1 : (sh s.size x).2 - (sh s.size x).1 = x.2 - x.1 := by unfold sh; simp; omega
  have e2 : (sh s.size x).1 = s.size + x.1 := by unfold sh; simp; omega
  rw [e1, e2, fst_r]
  cases fst t (x.2 - x.1) x.1 with
  | none => exact ch_r
  | some i => exact ch_r
theorem en_l {s t : ByteArray} {x : Nat × Nat} (h1 : x.1 < x.2) (h2 : x.2 ≤ s.size) : en (s ++ t) x = en s x := ch_l (by omega)
theorem en_r {s t : ByteArray} {x : Nat × Nat} (h1 : x.1 < x.2) : en (s ++ t) (sh s.size x) = en t x := by
  unfold en
  rw [show (sh s.size x).2 - 1 = s.size + (x.2 - 1) by unfold sh; simp; omega, ch_r]
theorem mayL_get {H E : List Int} {k : Nat} (hk : k < H.length) : (mayL H E)[k]? = some (may1 H E k) := by
  unfold mayL
  rw [List.getElem?_map, List.getElem?_range hk]; rfl
theorem mayL_length (H E : List Int) : (mayL H E).length = H.length := by simp [mayL]
theorem mayL_app {H E H2 E2 : List Int} {h e : Int} (hl : E.length = H.length) (hc : FC.cls h = 1) : mayL (H ++ h :: H2) (E ++ e :: E2) = mayL H E ++ 2 :: mayL H2 E2 := by
  apply List.ext_getElem?
  intro k
  by_cases h1 : k < H.length
  · rw [mayL_get (by simp; omega), List.getElem?_append_left (by rw [mayL_length]; exact h1), mayL_get h1]
    congr 1
    have a1 : (H ++ h :: H2).getD k 0 = H.getD k 0 := by simp [List.getD, List.getElem?_append_left h1]
    have a2 : (E ++ e :: E2).getD k 0 = E.getD k 0 := by simp [List.getD, List.getElem?_append_left (show k < E.length by omega)]
    unfold may1
    rw [a1, a2]
    split
    · rfl
    · rw [if_pos (show k + 1 < (H ++ h :: H2).length by simp; omega)]
      by_cases h2 : k + 1 < H.length
      · rw [if_pos h2]
        congr 1
        simp [List.getD, List.getElem?_append_left h2]
      · rw [if_neg h2]
        have : (H ++ h :: H2).getD (k + 1) 0 = h := by
          rw [show k + 1 = H.length by omega]; simp [List.getD]
        rw [this]
        unfold ins
        rw [if_pos (.inl hc)]
  · by_cases h2 : k = H.length
    · subst h2
      rw [mayL_get (by simp), List.getElem?_append_right (by rw [mayL_length]; exact Nat.le_refl _), mayL_length, Nat.sub_self]
      unfold may1
      rw [show (H ++ h :: H2).getD H.length 0 = h by simp [List.getD], if_pos hc]; rfl
    · by_cases h3 : k < H.length + 1 + H2.length
      · obtain ⟨j, rfl⟩ : ∃ j, k = H.length + 1 + j := ⟨k - H.length - 1, by omega⟩
        have hj : j < H2.length := by omega
        rw [mayL_get (by simp; omega), List.getElem?_append_right (by rw [mayL_length]; omega), mayL_length, show H.length + 1 + j - H.length = j + 1 by omega, List.getElem?_cons_succ, mayL_get hj]
        congr 1
        have g : ∀ (A B : List Int) (y : Int) (i : Nat), (A ++ y :: B).getD (A.length + 1 + i) 0 = B.getD i 0 := fun A B y i => by
          simp only [List.getD]
          rw [List.getElem?_append_right (by omega), show A.length + 1 + i - A.length = i + 1 by omega, List.getElem?_cons_succ]
        unfold may1
        rw [g, show H.length + 1 + j + 1 = H.length + 1 + (j + 1) by omega, g, show H.length + 1 + j = E.length + 1 + j by omega, g]
        have hlen : (H ++ h :: H2).length = H.length + 1 + H2.length := by simp; omega
        rw [hlen]
        split
        · rfl
        · by_cases h4 : j + 1 < H2.length
          · rw [if_pos h4, if_pos (by omega)]
          · rw [if_neg h4, if_neg (by omega)]
      · rw [List.getElem?_eq_none (by rw [mayL_length]; simp; omega), List.getElem?_eq_none (by rw [List.length_append, mayL_length, List.length_cons, mayL_length]; omega)]
theorem heads_l {s t : ByteArray} : heads (s ++ t) (split s) = heads s (split s) :=
  List.map_congr_left fun x hx => hd_l (sp_mem (sp_split s) x hx).1 (sp_mem (sp_split s) x hx).2
theorem ends_l {s t : ByteArray} : ends (s ++ t) (split s) = ends s (split s) :=
  List.map_congr_left fun x hx => en_l (sp_mem (sp_split s) x hx).1 (sp_mem (sp_split s) x hx).2
theorem heads_r {s t : ByteArray} : heads (s ++ t) ((split t).map (sh s.size)) = heads t (split t) := by
  unfold heads
  rw [List.map_map]
  exact List.map_congr_left fun x hx => hd_r (sp_mem (sp_split t) x hx).1 (sp_mem (sp_split t) x hx).2
theorem ends_r {s t : ByteArray} : ends (s ++ t) ((split t).map (sh s.size)) = ends t (split t) := by
  unfold ends
  rw [List.map_map]
  exact List.map_congr_left fun x hx => en_r (sp_mem (sp_split t) x hx).1
theorem may_three (s t : ByteArray) : may (s ++ nl ++ t) = may s ++ 2 :: may t := by
  have hn : (s ++ nl).size = s.size + 1 := by rw [ByteArray.size_append, nl_size]
  have e1 : heads (s ++ nl ++ t) (split (s ++ nl ++ t)) = heads s (split s) ++ hd (s ++ nl ++ t) (s.size, s.size + 1) :: heads t (split t) := by
    rw [split_three]
    unfold heads
    rw [List.map_append, List.map_cons]
    congr 1
    · have := heads_l (s := s) (t := nl ++ t); rw [← ByteArray.append_assoc] at this; exact this
    · congr 1
      have := heads_r (s := s ++ nl) (t := t); rw [hn] at this; exact this
  have e2 : ends (s ++ nl ++ t) (split (s ++ nl ++ t)) = ends s (split s) ++ en (s ++ nl ++ t) (s.size, s.size + 1) :: ends t (split t) := by
    rw [split_three]
    unfold ends
    rw [List.map_append, List.map_cons]
    congr 1
    · have := ends_l (s := s) (t := nl ++ t); rw [← ByteArray.append_assoc] at this; exact this
    · congr 1
      have := ends_r (s := s ++ nl) (t := t); rw [hn] at this; exact this
  have hc : hd (s ++ nl ++ t) (s.size, s.size + 1) = 10 := by
    rw [hd_l (by simp) (by rw [hn]; exact Nat.le_refl _)]
    have := hd_r (s := s) (t := nl) (x := (0, 1)) (by simp) (by rw [nl_size]; exact Nat.le_refl _)
    unfold sh at this
    rw [Nat.zero_add, Nat.add_comm] at this
    rw [this]; decide +kernel
  unfold may
  rw [e1, e2, hc]
  exact mayL_app (by simp [heads, ends]) (FC.cls_10 rfl)
end BP
end Go.Proofs.YtcocnmpnbolpmaaDoor
