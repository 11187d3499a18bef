/- Plain facts: levels of texts put together, of texts of one direction, of texts with like characters. No conditions. -/
import Derived.Test.YtbgmbcngkmlfeaaDoorOrd22
namespace Go.Proofs.YtbgmbcngkmlfeaaDoor.OP
set_option linter.unusedVariables false
open CP
theorem sts_get {s : ByteArray} {i : Nat} (h : i < s.size) : (sts s)[i]? = some (FC.stg (ch s i)) := by
  rw [sts, List.getElem?_map, List.getElem?_range h]; rfl
theorem sts_append (s t : ByteArray) : sts (s ++ t) = sts s ++ sts t := by
  unfold sts
  rw [ByteArray.size_append, List.range_add, List.map_append, List.map_map]
  congr 1
  · exact List.map_congr_left fun i hi => by rw [ch_l (List.mem_range.1 hi)]
  · exact List.map_congr_left fun i hi => by simp only [Function.comp]; rw [ch_r]
theorem fb_append : ∀ (l m : List Int), (∃ k ∈ l, k = 1 ∨ k = 2) → fb (l ++ m) = fb l
  | [], _, ⟨k, hk, _⟩ => by cases hk
  | x :: l, m, ⟨k, hk, h⟩ => by
    rw [List.cons_append, fb, fb]
    split
    · rfl
    · rename_i hx
      refine fb_append l m ?_
      rcases List.mem_cons.1 hk with rfl | hk
      · exact absurd h hx
      · exact ⟨k, hk, h⟩
theorem fb_two : ∀ {l : List Int}, fb l = 2 → 2 ∈ l
  | [], h => by simp [fb] at h
  | x :: l, h => by
    unfold fb at h
    split at h
    · simp [h]
    · exact List.mem_cons_of_mem _ (fb_two h)
theorem fb_has : ∀ {l : List Int}, (∀ k ∈ l, k ≠ 1) → 2 ∈ l → fb l = 2
  | [], _, h => by cases h
  | x :: l, h1, h => by
    unfold fb
    split
    · have := h1 x (by simp)
      omega
    · rename_i hx
      rcases List.mem_cons.1 h with rfl | h
      · exact absurd (.inr rfl) hx
      · exact fb_has (fun k hk => h1 k (by simp [hk])) h
/-- The base of a text that begins with a strong one. -/
theorem bse_append {a r : ByteArray} (h : ∃ k ∈ sts a, k = 1 ∨ k = 2) : bse (a ++ r) = bse a := by
  unfold bse
  rw [sts_append, fb_append _ _ h]
/-- The kind at a place is that of a cluster around it. -/
theorem knd_at (s : ByteArray) : ∀ {f : Nat} {l : List (Nat × Nat)} {i : Nat}, Sp s f l → f ≤ i → i < s.size → ∃ p : Nat, p ≤ i ∧ i < stop s p ∧ p < s.size ∧ (knd s l)[i - f]? = some (kof s (p, stop s p))
  | f, [], i, h, h1, h2 => by have h : f = s.size := h; omega
  | f, x :: l, i, h, h1, h2 => by
    obtain ⟨hf, rfl, h3⟩ := h
    have hb := stop_bd hf
    by_cases hi : i < stop s f
    · refine ⟨f, h1, hi, hf, ?_⟩
      unfold knd
      rw [List.flatMap_cons, List.getElem?_append_left (by rw [List.length_replicate]; simp only; omega), List.getElem?_replicate, if_pos (by simp only; omega)]
    · obtain ⟨p, p1, p2, p3, p4⟩ := knd_at s h3 (by omega) h2
      refine ⟨p, p1, p2, p3, ?_⟩
      rw [← p4]
      unfold knd
      rw [List.flatMap_cons, List.getElem?_append_right (by rw [List.length_replicate]; simp only; omega), List.length_replicate]
      congr 1
      simp only
      omega
theorem kinds_at {s : ByteArray} {i : Nat} (h : i < s.size) : ∃ p : Nat, p ≤ i ∧ i < stop s p ∧ p < s.size ∧ (kinds s).getD i 0 = kof s (p, stop s p) := by
  obtain ⟨p, h1, h2, h3, h4⟩ := knd_at s (sp_split s) (Nat.zero_le _) h
  refine ⟨p, h1, h2, h3, ?_⟩
  rw [Nat.sub_zero] at h4
  unfold kinds
  simp [List.getD, h4]
/-- A line end is a cluster of its own. -/
theorem kinds_line {s : ByteArray} {i : Nat} (h : i < s.size) (hc : ch s i = 10) : (kinds s).getD i 0 = 0 := by
  obtain ⟨p, h1, h2, h3, h4⟩ := kinds_at h
  have hex : ex s i = false := by unfold ex; rw [hc]; decide +kernel
  have hcl : cl s i = 1 := by unfold cl; rw [hc]; decide +kernel
  obtain rfl : p = i := by
    rcases Nat.lt_or_ge p i with hp | hp
    · have := stop_no hp h2
      unfold beg at this
      rw [hex, hcl] at this
      simp at this
    · omega
  rw [h4]
  unfold kof
  have hb := stop_bd h3
  rw [show base s ((p, stop s p).1 : Int) ((p, stop s p).2 : Int) = (p : Int) from base_some hb.1 hb.2 (fst_here hex (by omega)), Int.toNat_natCast, hc]
  decide +kernel
/-- The level of a line end is that of the base. -/
theorem level_line {s : ByteArray} {i : Nat} (h : i < s.size) (hc : ch s i = 10) : levelAt s i = if bse s = 2 then 1 else 0 := by
  have hcl : cl s i = 1 := by unfold cl; rw [hc]; decide +kernel
  unfold levelAt
  rw [if_pos hcl, kinds_line h hc]
  unfold lv
  by_cases hb : bse s = 2 <;> simp [hb]
theorem ch_mid (a b : ByteArray) : ch (a ++ ⟨#[10]⟩ ++ b) a.size = 10 := by
  have h := ch_l (s := a ++ ⟨#[10]⟩) (t := b) (i := a.size) (by rw [ByteArray.size_append]; show a.size < a.size + 1; omega)
  have h2 := ch_r (s := a) (t := ⟨#[10]⟩) (i := 0)
  rw [Nat.add_zero] at h2
  rw [h, h2]
  rfl
/-- Texts with like characters have the same levels. -/
theorem like_all {s t : ByteArray} (hz : s.size = t.size) (h : ∀ i, i < s.size → FC.cls (ch s i) = FC.cls (ch t i) ∧ FC.stg (ch s i) = FC.stg (ch t i)) (i : Nat) : FC.cls (ch s i) = FC.cls (ch t i) ∧ FC.stg (ch s i) = FC.stg (ch t i) := by
  by_cases hi : i < s.size
  · exact h i hi
  · rw [ch_out hi, ch_out (by omega)]; exact ⟨rfl, rfl⟩
theorem levels_like {s t : ByteArray} (hz : s.size = t.size) (h0 : ∀ i, i < s.size → FC.cls (ch s i) = FC.cls (ch t i) ∧ FC.stg (ch s i) = FC.stg (ch t i)) : levels s = levels t := by
  have h := like_all hz h0
  have hcl : ∀ i, cl s i = cl t i := fun i => (h i).1
  have hex : ∀ i, ex s i = ex t i := fun i => by unfold ex FC.extB; rw [(h i).1]
  have hbeg : ∀ f i, beg s f i = beg t f i := fun f i => by unfold beg; rw [hcl, hcl, hex]
  have hnxt : ∀ g f i, nxt s f g i = nxt t f g i := by
    intro g
    induction g with
    | zero => intro f i; rfl
    | succ g ih => intro f i; unfold nxt; rw [hbeg, ih]
  have hstop : ∀ f, stop s f = stop t f := fun f => by unfold stop; rw [hz, hnxt]
  have hsp : ∀ g f, spans s g f = spans t g f := by
    intro g
    induction g with
    | zero => intro f; rfl
    | succ g ih => intro f; unfold spans; rw [hz, hstop, ih]
  have hfst : ∀ g i, fst s g i = fst t g i := by
    intro g
    induction g with
    | zero => intro i; rfl
    | succ g ih => intro i; unfold fst; rw [hex, ih]
  have hbase : ∀ f e, base s f e = base t f e := fun f e => by unfold base; rw [hz, hfst]
  have hk : kinds s = kinds t := by
    unfold kinds knd split
    rw [hz, hsp]
    congr 1
    funext x
    unfold kof
    rw [hbase, (h _).2]
  have hb : bse s = bse t := by
    unfold bse sts
    rw [hz]
    congr 1
    exact List.map_congr_left fun i _ => (h i).2
  unfold levels
  rw [hz]
  exact List.map_congr_left fun i _ => by unfold levelAt; rw [hb, hk, hcl]
theorem nx_all {b : Int} : ∀ {R : List Int}, (∀ x ∈ R, x = 0 ∨ x = b) → nx b R = b
  | [], _ => rfl
  | x :: R, h => by
    unfold nx
    split
    · exact nx_all fun y hy => h y (by simp [hy])
    · rename_i hx
      exact (h x (by simp)).resolve_left hx
theorem fil_all {b : Int} : ∀ {R : List Int}, (∀ x ∈ R, x = 0 ∨ x = b) → ∀ x ∈ fil b b R, x = b
  | [], _, x, hx => by cases hx
  | r :: R, h, x, hx => by
    have hR : ∀ y ∈ R, y = 0 ∨ y = b := fun y hy => h y (by simp [hy])
    unfold fil at hx
    split at hx
    · rcases List.mem_cons.1 hx with rfl | hx
      · split <;> rfl
      · exact fil_all hR x hx
    · rename_i hr
      have e := (h r (by simp)).resolve_left hr
      rcases List.mem_cons.1 hx with rfl | hx
      · exact e
      · rw [e] at hx; exact fil_all hR x hx
theorem res_all {b : Int} (hb : b = 1 ∨ b = 2) : ∀ {K : List Int}, (∀ k ∈ K, k = b ∨ k = 0 ∨ k = 3) → ∀ x ∈ res b K, x = 0 ∨ x = b
  | [], _, x, hx => by cases hx
  | k :: K, h, x, hx => by
    have hK : ∀ y ∈ K, y = b ∨ y = 0 ∨ y = 3 := fun y hy => h y (by simp [hy])
    unfold res at hx
    split at hx
    · have e : k = b := by have := h k (by simp); omega
      rcases List.mem_cons.1 hx with rfl | hx
      · exact .inr e
      · rw [e] at hx; exact res_all hb hK x hx
    · rcases List.mem_cons.1 hx with rfl | hx
      · split
        · exact .inl rfl
        · exact .inr rfl
      · exact res_all hb hK x hx
theorem dirs_all {b : Int} (hb : b = 1 ∨ b = 2) {K : List Int} (h : ∀ k ∈ K, k = b ∨ k = 0 ∨ k = 3) {i : Nat} (hi : i < K.length) : (dirs b K).getD i 0 = b := by
  have hl : i < (dirs b K).length := by rw [dirs_len]; exact hi
  have := fil_all (res_all hb h) (dirs b K)[i] (List.getElem_mem hl)
  simp [List.getD, List.getElem?_eq_getElem hl, this]
theorem kof_char {s : ByteArray} {p : Int → Prop} (h0 : p 0) (h : ∀ i, i < s.size → p (FC.stg (ch s i))) : ∀ k ∈ kinds s, p k := by
  intro k hk
  obtain ⟨x, -, hx⟩ := List.mem_flatMap.1 hk
  obtain ⟨-, rfl⟩ := List.mem_replicate.1 hx
  unfold kof
  by_cases hb : (base s (x.1 : Int) (x.2 : Int)).toNat < s.size
  · exact h _ hb
  · rw [ch_out hb, show FC.stg 0 = 0 by decide +kernel]; exact h0
/-- Without characters of script 2. -/
theorem left_only {s : ByteArray} (h : ∀ i, i < s.size → FC.stg (ch s i) ≠ 2) : bse s = 1 ∧ ∀ i, i < s.size → levelAt s i = 0 := by
  have hb : bse s = 1 := by
    refine (fb_bd (sts s)).resolve_right fun e => ?_
    obtain ⟨i, hi, he⟩ := List.getElem_of_mem (fb_two e)
    have hi' : i < s.size := by rwa [sts_len] at hi
    have h2 := sts_get hi'
    rw [List.getElem?_eq_getElem hi, he] at h2
    exact h i hi' (Option.some.inj h2).symm
  refine ⟨hb, fun i hi => ?_⟩
  have hk : ∀ k ∈ kinds s, k = 1 ∨ k = 0 ∨ k = 3 := fun k hk => by
    have h1 := kof_char (p := fun k => k ≠ 2) (by decide) h k hk
    have h2 := kinds_bd hk
    omega
  have hd := dirs_all (.inl rfl) hk (i := i) (by rw [kinds_len]; exact hi)
  unfold levelAt
  rw [hb, hd]
  unfold lv
  simp
/-- With those of script 2 and neutral ones alone. -/
theorem right_only {s : ByteArray} (h : ∀ i, i < s.size → FC.stg (ch s i) ≠ 1 ∧ FC.stg (ch s i) ≠ 3) (h2 : ∃ i, i < s.size ∧ FC.stg (ch s i) = 2) : bse s = 2 ∧ ∀ i, i < s.size → levelAt s i = 1 := by
  have hb : bse s = 2 := by
    refine fb_has (fun k hk => ?_) ?_
    · obtain ⟨i, hi, rfl⟩ := List.mem_map.1 hk
      exact (h i (List.mem_range.1 hi)).1
    · obtain ⟨i, hi, e⟩ := h2
      exact List.mem_map.2 ⟨i, List.mem_range.2 hi, e⟩
  refine ⟨hb, fun i hi => ?_⟩
  have h13 := kof_char (p := fun k => k ≠ 1 ∧ k ≠ 3) (by decide) h
  have hk : ∀ k ∈ kinds s, k = 2 ∨ k = 0 ∨ k = 3 := fun k hk => by
    have h1 := h13 k hk
    have h2 := kinds_bd hk
    omega
  have hd := dirs_all (.inr rfl) hk (i := i) (by rw [kinds_len]; exact hi)
  have hk3 : (kinds s).getD i 0 ≠ 3 := by
    have hl : i < (kinds s).length := by rw [kinds_len]; exact hi
    have := (h13 (kinds s)[i] (List.getElem_mem hl)).2
    simpa [List.getD, List.getElem?_eq_getElem hl] using this
  unfold levelAt
  rw [hb, hd]
  unfold lv
  rw [ite_self, if_pos ⟨rfl, hk3⟩]
theorem ch_one {s : ByteArray} {k : Nat} (h : k < s.size) : ch (s.extract k (k + 1)) 0 = ch s k := by
  have hl : 0 < (s.extract k (k + 1)).size := by rw [ByteArray.size_extract]; omega
  rw [ch_at h, ch_at hl, ByteArray.getElem_extract]
  simp
theorem one_size {s : ByteArray} {k : Nat} (h : k < s.size) : (s.extract k (k + 1)).size = 1 := by rw [ByteArray.size_extract]; omega
/-- One character more. -/
theorem more_char {X Y : ByteArray} {c : Int} {p : Int → Prop} (hX : ∀ i, i < X.size → p (ch X i)) (hy : Y.size = 1) (hc : ch Y 0 = c) (hp : p c) : ∀ i, i < (X ++ Y).size → p (ch (X ++ Y) i) := by
  intro i hi
  rw [ByteArray.size_append] at hi
  by_cases h : i < X.size
  · rw [ch_l h]; exact hX i h
  · obtain rfl : i = X.size + 0 := by omega
    rw [ch_r, hc]; exact hp
end Go.Proofs.YtbgmbcngkmlfeaaDoor.OP
theorem Go.Proofs.YtbgmbcngkmlfeaaDoor.cut60 (s : ByteArray) : ∃ n : Nat, (if (60 : Int) < (s.size : Int) then 60 else (s.size : Int)) = (n : Int) ∧ min (s.size : Int) 60 = (n : Int) ∧ (n : Int) ≤ (s.size : Int) ∧ n ≤ 60 ∧ (s.extract 0 n).size = n :=
  ⟨min s.size 60, by split <;> omega, by omega, by omega, by omega, by rw [ByteArray.size_extract]; omega⟩
