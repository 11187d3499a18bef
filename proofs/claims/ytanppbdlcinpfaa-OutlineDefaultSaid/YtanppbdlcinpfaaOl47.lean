/- Outlines where no region has a part. No conditions. -/
import Derived.Test.YtanppbdlcinpfaaOl46
import Derived.Test.YtanppbdlcinpfaaAx35
namespace Go.Proofs.Ytanppbdlcinpfaa
set_option maxRecDepth 100000
set_option linter.unusedVariables false
open Go.RowKit Go.Deep
theorem sc_rgt {l : List AX.Tn} {at' : List Int} (hr : AX.right l (at'.length : Int) = true) (hc : AX.coords at' = true) : F.FP.rgt (AX.scalar l at').1 (AX.scalar l at').2 := by
  have hrr := (AX.right_iff _ _).1 hr
  have hcc := (AX.coords_iff _).1 hc
  have hlen : (l.zip at').length = at'.length := by rw [List.length_zip]; omega
  have hz : ∀ x ∈ l.zip at', AX.tent x.1 = true ∧ AX.coord x.2 = true := fun x hx => ⟨hrr.2 _ (List.of_mem_zip hx).1, hcc.1 _ (List.of_mem_zip hx).2⟩
  have hS := (AX.prod_S hz (by omega) (l.zip at').length (Nat.le_refl _)).1
  rw [List.take_length] at hS
  unfold AX.scalar
  rw [if_pos ⟨hr, hc⟩]
  exact hS
theorem part_zero {b d : Int} (hb : F.FP.sm b) (hr : F.FP.rgt 0 d) : F.FP.partS b 0 d = (0, true) := by
  obtain ⟨r1, r2, r3, r4, r5⟩ := id hr
  unfold F.FP.partS
  rw [if_pos ⟨hb, hr⟩]
  unfold F.FP.rnd
  rw [Int.mul_zero, Int.zero_emod, Int.zero_ediv, if_neg (by omega)]
theorem acc_zero {R : List (List AX.Tn)} {at' : List Int} : ∀ {l : List (Int × Int)} {s : Int}, (∀ g ∈ l, AX.partOf R at' g = (0, true)) → AX.acc R at' (s, true) l = (s, true)
  | [], _, _ => rfl
  | g :: l, s, h => by
    show AX.acc R at' (s + (AX.partOf R at' g).1, true && (AX.partOf R at' g).2) l = _
    rw [h g (List.mem_cons_self ..), Int.add_zero]
    exact acc_zero (fun x hx => h x (List.mem_cons_of_mem _ hx))
theorem sum_zero {x : Int} {l : List (Int × Int)} {R : List (List AX.Tn)} {at' : List Int} (hx : F.FP.sm x) (hl : l.length ≤ 8) (hc : AX.coords at' = true) (hg : ∀ g ∈ l, AX.growOk R (at'.length : Int) g = true) (hs : ∀ g ∈ l, F.FP.sm g.2 ∧ (AX.scalar (R.getD g.1.toNat []) at').1 = 0) : (AX.sum x l R at').1 = 64 * x := by
  have h0 : AX.acc R at' (F.FP.partS x 1 1) l = (64 * x, true) := by
    rw [part_1 hx]
    refine acc_zero fun g h => ?_
    have h1 := hg g h
    unfold AX.growOk at h1
    rw [Bool.and_eq_true] at h1
    have h2 := sc_rgt h1.2 hc
    obtain ⟨h3, h4⟩ := hs g h
    unfold AX.partOf
    rw [h4] at h2 ⊢
    exact part_zero h3 h2
  unfold AX.sum
  rw [h0, if_pos ⟨hl, hc, List.all_eq_true.2 hg, rfl⟩]
theorem MkOk.grow {G : Gl} {m n : Nat} (h : MkOk G m) {R : List (List AX.Tn)} (hr : R.length = m) (hR : ∀ r ∈ R, AX.right r (n : Nat) = true ∧ r.length = n) {d : Dl} (hd : d ∈ G.ds) (b : Int) : AX.growOk R (n : Int) (d.r, b) = true := by
  obtain ⟨-, h1, h2⟩ := h.mv d hd
  unfold AX.growOk
  dsimp only
  have h3 : d.r.toNat < R.length := by omega
  rw [decide_eq_true (by omega), List.getD_eq_getElem?_getD, List.getElem?_eq_getElem h3]
  exact (hR _ (List.getElem_mem h3)).1
theorem MkOk.mvb {G : Gl} {m : Nat} (h : MkOk G m) {d : Dl} (hd : d ∈ G.ds) (k q : Nat) : -64 ≤ OL.mv k q d ∧ OL.mv k q d ≤ 64 := by
  have h2 := (h.mv d hd).1.all
  have h3 : ∀ p : Int × Int, p = d.m.getD k (0, 0) → (OL.mo p.1 && OL.mo p.2) = true := fun p hp => by
    rw [List.getD_eq_getElem?_getD] at hp
    cases hc : d.m[k]? with
    | none => rw [hc] at hp; rw [hp]; rfl
    | some z => rw [hc] at hp; rw [hp]; exact h2 z (List.mem_of_getElem? hc)
  have h4 := h3 _ rfl
  rw [Bool.and_eq_true] at h4
  have h5 := mo_iff h4.1
  have h6 := mo_iff h4.2
  unfold OL.mv
  split <;> assumption
theorem nums_fun {f : Nat → Nat → Int → Int} {s : Int → Int} {Q : Int → Prop} (hz : ∀ k q x, Q x → f k q x = s x) : ∀ (C : List (List Pt)) (A : List Ac) (k0 k1 : Nat), (∀ p ∈ nums C A, Q p.1 ∧ Q p.2) → nums (tcs f k0 C) (tan f k1 A) = (nums C A).map fun p => (s p.1, s p.2) := fun C A k0 k1 h => by
  unfold nums at h ⊢
  rw [List.map_append]
  congr 1
  · induction C generalizing k0 with
    | nil => rfl
    | cons c C ih =>
      show ((tct f k0 c).map (fun p => (p.x, p.y)) ++ (tcs f (k0 + c.length) C).flatMap fun c => c.map fun p => (p.x, p.y)) = _
      rw [ih _ (fun p hp => h p (by
        rcases List.mem_append.1 hp with h1 | h1
        · exact List.mem_append_left _ (by rw [List.flatMap_cons]; exact List.mem_append_right _ h1)
        · exact List.mem_append_right _ h1)), List.flatMap_cons, List.map_append]
      congr 1
      refine List.ext_getElem? fun j => ?_
      rw [List.getElem?_map, tct_at, List.getElem?_map, List.getElem?_map]
      cases hj : c[j]? with
      | none => rfl
      | some z =>
        have hz2 := h (z.x, z.y) (List.mem_append_left _ (by rw [List.flatMap_cons]; exact List.mem_append_left _ (List.mem_map.2 ⟨z, List.mem_of_getElem? hj, rfl⟩)))
        show some (f (k0 + j) 0 z.x, f (k0 + j) 1 z.y) = some (s z.x, s z.y)
        rw [hz _ _ _ hz2.1, hz _ _ _ hz2.2]
  · refine List.ext_getElem? fun j => ?_
    rw [List.getElem?_map, tan_at, List.getElem?_map, List.getElem?_map]
    cases hj : A[j]? with
    | none => rfl
    | some z =>
      have hz2 := h (z.x, z.y) (List.mem_append_right _ (List.mem_map.2 ⟨z, List.mem_of_getElem? hj, rfl⟩))
      show some (f (k1 + j) 0 z.x, f (k1 + j) 1 z.y) = some (s z.x, s z.y)
      rw [hz _ _ _ hz2.1, hz _ _ _ hz2.2]
theorem flat_map (s : Int → Int) : ∀ l : List (Int × Int), OL.flat (l.map fun p => (s p.1, s p.2)) = (OL.flat l).map s
  | [] => rfl
  | p :: l => by
    have ih := flat_map s l
    unfold OL.flat at ih ⊢
    rw [List.map_cons, List.flatMap_cons, List.flatMap_cons, List.map_append, ih]
    rfl
theorem draw_zero {G : Gl} {m n : Nat} (h : MkOk G m) {R : List (List AX.Tn)} (hr : R.length = m) (hR : ∀ r ∈ R, AX.right r (n : Nat) = true ∧ r.length = n) (hn : n ≤ 3) (L : List Int) (h0 : ∀ d ∈ G.ds, (AX.scalar (R.getD d.r.toNat []) (AX.mkAt L n)).1 = 0) : OL.nl (OL.draw G R (AX.mkAt L n)) = (OL.nl ⟨G.cs, G.an, G.hg, G.ad⟩).map (64 * ·) := by
  obtain ⟨h1, h2, h3⟩ := h.nums
  have hc := AX.mkAt_coords L hn
  have hsx : ∀ k q x, (-128 ≤ x ∧ x ≤ 128) → OL.sx R (AX.mkAt L n) G.ds k q x = 64 * x := fun k q x hx => by
    unfold OL.sx
    refine sum_zero (by unfold F.FP.sm; omega) (by rw [List.length_map]; have := h.nds; omega) hc (fun g hg => ?_) (fun g hg => ?_)
    · obtain ⟨d, hd, rfl⟩ := List.mem_map.1 hg
      rw [AX.mkAt_len]
      exact h.grow hr hR hd _
    · obtain ⟨d, hd, rfl⟩ := List.mem_map.1 hg
      exact ⟨by have := h.mvb hd k q; unfold F.FP.sm; dsimp only; omega, h0 d hd⟩
  have hav : (AX.sum G.ad (G.ds.map fun d => (d.r, OL.av d)) R (AX.mkAt L n)).1 = 64 * G.ad := by
    refine sum_zero (by have := h.ad; unfold F.FP.sm; omega) (by rw [List.length_map]; have := h.nds; omega) hc (fun g hg => ?_) (fun g hg => ?_)
    · obtain ⟨d, hd, rfl⟩ := List.mem_map.1 hg
      rw [AX.mkAt_len]
      exact h.grow hr hR hd _
    · obtain ⟨d, hd, rfl⟩ := List.mem_map.1 hg
      have h4 := (h.mv d hd).1
      have := h4.lo
      have := h4.hi
      exact ⟨by unfold F.FP.sm OL.av; dsimp only; omega, h0 d hd⟩
  unfold OL.nl OL.draw
  dsimp only
  rw [nums_fun (Q := fun x => -128 ≤ x ∧ x ≤ 128) hsx _ _ _ _ h1, flat_map, List.map_append, hsx _ _ _ h2, hsx _ _ _ h3, hav]
  rfl
theorem MkOk.none {G : Gl} {m : Nat} (h : MkOk G m) : MkOk ⟨G.cs, G.an, G.hg, G.ad, [], []⟩ m := by
  refine ⟨?_, ⟨h.ok.cs, h.ok.an, Nat.zero_le _, by simp, Nat.zero_le _⟩, h.cs, h.ncs, h.nan, Nat.zero_le _, h.ad, by simp⟩
  have hc := h.chk
  obtain ⟨cs, an, hg, ad, ds, pr⟩ := G
  unfold OL.check OL.points at hc ⊢
  dsimp only at hc ⊢
  repeat' (split at hc; first | cases hc | skip)
  rename_i h1 h2 h3 h4 h5 h6
  rw [if_neg h1, if_neg h2, if_neg h3, if_neg h4, if_neg h5, if_neg (by simp [OL.dsGo])]
theorem MkOk.plain {G : Gl} {m : Nat} (h : MkOk G m) : ∀ z ∈ OL.nl ⟨G.cs, G.an, G.hg, G.ad⟩, -128 ≤ z ∧ z ≤ 128 := by
  obtain ⟨h1, h2, h3⟩ := h.nums
  intro z hz
  unfold OL.nl at hz
  rcases List.mem_append.1 hz with h4 | h4
  · exact flat_mem (P := fun z => -128 ≤ z ∧ z ≤ 128) h1 z h4
  · simp only [List.mem_cons, List.not_mem_nil, or_false] at h4
    rcases h4 with rfl | rfl | rfl
    · exact h2
    · exact h3
    · have := h.ad
      omega
end Go.Proofs.Ytanppbdlcinpfaa
