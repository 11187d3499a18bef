/- How great drawn numbers are; numbers scaled. No conditions. -/
import Derived.Test.YtanppbdlcinpfaaOl44
import Derived.Test.YtanppbdlcinpfaaOl21z
import Derived.Test.YtanppbdlcinpfaaOl36
set_option linter.unusedSimpArgs false
set_option linter.unusedVariables false
namespace Go.Proofs.Ytanppbdlcinpfaa
set_option maxRecDepth 100000
set_option linter.unusedVariables false
open Go.RowKit Go.Deep
theorem part_1 {b : Int} (h : F.FP.sm b) : F.FP.partS b 1 1 = (64 * b, true) := by
  have hr : F.FP.rgt 1 1 := by constructor <;> first | decide | omega | (unfold F.FP.gc; decide)
  unfold F.FP.partS
  rw [if_pos ⟨h, hr⟩]
  unfold F.FP.rnd
  rw [Int.mul_one, Int.emod_one, Int.ediv_one]
  rfl
theorem rnd_bd {m d K : Int} (hd : 1 ≤ d) (h0 : -(K * d) ≤ m) (h1 : m ≤ K * d) : -K ≤ F.FP.rnd m d ∧ F.FP.rnd m d ≤ K + 1 := by
  have e := Int.mul_ediv_add_emod m d
  have e1 := Int.emod_nonneg m (show d ≠ 0 by omega)
  have e2 := Int.emod_lt_of_pos m (show 0 < d by omega)
  have a1 : -K ≤ m / d := by
    refine Int.le_ediv_of_mul_le (by omega) ?_
    rw [Int.neg_mul]
    exact h0
  have a2 : m / d ≤ K := by
    refine Int.ediv_le_of_le_mul (by omega) h1
  unfold F.FP.rnd
  split <;> omega
theorem part_small {a n d : Int} (h0 : -64 ≤ a) (h1 : a ≤ 64) : -4097 ≤ (F.FP.partS a n d).1 ∧ (F.FP.partS a n d).1 ≤ 4097 := by
  unfold F.FP.partS
  split
  · rename_i h
    obtain ⟨-, r1, r2, r3, r4, -⟩ := h
    have hd : 1 ≤ d := r1
    have hn : 0 ≤ n ∧ n ≤ d := ⟨r3, r4⟩
    have b1 : 64 * a * n ≤ 4096 * n := Int.mul_le_mul_of_nonneg_right (by omega) hn.1
    have b2 : -4096 * n ≤ 64 * a * n := Int.mul_le_mul_of_nonneg_right (by omega) hn.1
    have := rnd_bd (m := 64 * a * n) (d := d) (K := 4096) hd (by omega) (by omega)
    dsimp only
    omega
  · dsimp only
    omega
theorem acc_small (R : List (List AX.Tn)) (at' : List Int) : ∀ (l : List (Int × Int)) (s : Int × Bool), (∀ g ∈ l, -64 ≤ g.2 ∧ g.2 ≤ 64) → s.1 - 4097 * l.length ≤ (AX.acc R at' s l).1 ∧ (AX.acc R at' s l).1 ≤ s.1 + 4097 * l.length
  | [], s, _ => by show s.1 - 4097 * ((0 : Nat) : Int) ≤ s.1 ∧ s.1 ≤ s.1 + 4097 * ((0 : Nat) : Int); omega
  | g :: l, s, h => by
    have h1 := acc_small R at' l (s.1 + (AX.partOf R at' g).1, s.2 && (AX.partOf R at' g).2) (fun x hx => h x (List.mem_cons_of_mem _ hx))
    have h2 := h g (List.mem_cons_self ..)
    have h3 := part_small (n := (AX.scalar (R.getD g.1.toNat []) at').1) (d := (AX.scalar (R.getD g.1.toNat []) at').2) h2.1 h2.2
    have h4 : (AX.partOf R at' g).1 = (F.FP.partS g.2 (AX.scalar (R.getD g.1.toNat []) at').1 (AX.scalar (R.getD g.1.toNat []) at').2).1 := rfl
    rw [← h4] at h3
    show s.1 - 4097 * (((g :: l).length : Nat) : Int) ≤ (AX.acc R at' (s.1 + (AX.partOf R at' g).1, s.2 && (AX.partOf R at' g).2) l).1 ∧ (AX.acc R at' (s.1 + (AX.partOf R at' g).1, s.2 && (AX.partOf R at' g).2) l).1 ≤ _
    rw [List.length_cons]
    dsimp only at h1
    omega
theorem sum_small {x : Int} {l : List (Int × Int)} {R : List (List AX.Tn)} {at' : List Int} (h0 : -128 ≤ x) (h1 : x ≤ 128) (h : ∀ g ∈ l, -64 ≤ g.2 ∧ g.2 ≤ 64) (hl : l.length ≤ 2) : -20000 ≤ (AX.sum x l R at').1 ∧ (AX.sum x l R at').1 ≤ 20000 := by
  unfold AX.sum
  split
  · have h2 := acc_small R at' l (F.FP.partS x 1 1) h
    rw [part_1 (show F.FP.sm x by unfold F.FP.sm; omega)] at h2 ⊢
    dsimp only at h2 ⊢
    omega
  · dsimp only
    omega
theorem mo_iff {x : Int} (h : OL.mo x = true) : -64 ≤ x ∧ x ≤ 64 := by
  unfold OL.mo at h
  simpa using h
theorem co_iff {x : Int} (h : OL.co x = true) : -128 ≤ x ∧ x ≤ 128 := by
  unfold OL.co at h
  simpa using h
theorem MkOk.sx {G : Gl} {m : Nat} (h : MkOk G m) (R : List (List AX.Tn)) (at' : List Int) (k q : Nat) {x : Int} (h0 : -128 ≤ x) (h1 : x ≤ 128) : -20000 ≤ OL.sx R at' G.ds k q x ∧ OL.sx R at' G.ds k q x ≤ 20000 := by
  unfold OL.sx
  refine sum_small h0 h1 (fun g hg => ?_) (by rw [List.length_map]; exact h.nds)
  obtain ⟨d, hd, rfl⟩ := List.mem_map.1 hg
  have h2 := (h.mv d hd).1.all
  dsimp only
  have h3 : ∀ p : Int × Int, p = d.m.getD k (0, 0) → (OL.mo p.1 && OL.mo p.2) = true := fun p hp => by
    rw [List.getD_eq_getElem?_getD] at hp
    cases hc : d.m[k]? with
    | none => rw [hc] at hp; rw [hp]; rfl
    | some z => rw [hc] at hp; rw [hp]; exact h2 z (List.mem_of_getElem? hc)
  have h4 := h3 _ rfl
  rw [Bool.and_eq_true] at h4
  have h5 := mo_iff h4.1
  have h6 := mo_iff h4.2
  unfold OL.mv
  split <;> assumption
theorem MkOk.av {G : Gl} {m : Nat} (h : MkOk G m) (R : List (List AX.Tn)) (at' : List Int) : -20000 ≤ (AX.sum G.ad (G.ds.map fun d => (d.r, OL.av d)) R at').1 ∧ (AX.sum G.ad (G.ds.map fun d => (d.r, OL.av d)) R at').1 ≤ 20000 := by
  refine sum_small (by have := h.ad; omega) (by have := h.ad; omega) (fun g hg => ?_) (by rw [List.length_map]; exact h.nds)
  obtain ⟨d, hd, rfl⟩ := List.mem_map.1 hg
  have h2 := (h.mv d hd).1
  have := h2.lo
  have := h2.hi
  unfold OL.av
  dsimp only
  omega
theorem nums_t {f : Nat → Nat → Int → Int} {P : Int → Prop} {Q : Int → Prop} (hf : ∀ k q x, Q x → P (f k q x)) : ∀ (C : List (List Pt)) (A : List Ac) (k0 k1 : Nat), (∀ p ∈ nums C A, Q p.1 ∧ Q p.2) → ∀ p ∈ nums (tcs f k0 C) (tan f k1 A), P p.1 ∧ P p.2 := fun C A k0 k1 h p hp => by
  unfold nums at hp
  rcases List.mem_append.1 hp with h1 | h1
  · obtain ⟨c, hc, hcp⟩ := List.mem_flatMap.1 h1
    obtain ⟨z, hz, rfl⟩ := List.mem_map.1 hcp
    obtain ⟨i, hi⟩ := List.mem_iff_getElem?.1 hc
    have hil : i < C.length := by have := (List.getElem?_eq_some_iff.1 hi).1; rwa [tcs_len] at this
    obtain ⟨c0, hc0⟩ : ∃ c0, C[i]? = some c0 := ⟨_, List.getElem?_eq_getElem hil⟩
    rw [tcs_at f C k0 i c0 hc0] at hi
    obtain rfl := Option.some.inj hi
    obtain ⟨j, hj⟩ := List.mem_iff_getElem?.1 hz
    rw [tct_at] at hj
    cases hc1 : c0[j]? with
    | none => rw [hc1] at hj; cases hj
    | some z0 =>
      rw [hc1] at hj
      obtain rfl := Option.some.inj hj
      have h2 := h (z0.x, z0.y) (List.mem_of_getElem? (nums_pt hc0 hc1))
      exact ⟨hf _ _ _ h2.1, hf _ _ _ h2.2⟩
  · obtain ⟨z, hz, rfl⟩ := List.mem_map.1 h1
    obtain ⟨j, hj⟩ := List.mem_iff_getElem?.1 hz
    rw [tan_at] at hj
    cases hc1 : A[j]? with
    | none => rw [hc1] at hj; cases hj
    | some z0 =>
      rw [hc1] at hj
      obtain rfl := Option.some.inj hj
      have h2 := h (z0.x, z0.y) (List.mem_of_getElem? (nums_an (C := C) hc1))
      exact ⟨hf _ _ _ h2.1, hf _ _ _ h2.2⟩
theorem flat_mem {N : List (Int × Int)} {P : Int → Prop} (h : ∀ p ∈ N, P p.1 ∧ P p.2) : ∀ z ∈ OL.flat N, P z := fun z hz => by
  unfold OL.flat at hz
  obtain ⟨p, hp, hzp⟩ := List.mem_flatMap.1 hz
  have := h p hp
  rcases List.mem_cons.1 hzp with rfl | h2
  · exact this.1
  · rw [List.mem_singleton.1 h2]; exact this.2
theorem MkOk.nums {G : Gl} {m : Nat} (h : MkOk G m) : (∀ p ∈ Go.Proofs.Ytanppbdlcinpfaa.nums G.cs G.an, (-128 ≤ p.1 ∧ p.1 ≤ 128) ∧ (-128 ≤ p.2 ∧ p.2 ≤ 128)) ∧ (-128 ≤ G.hg.x ∧ G.hg.x ≤ 128) ∧ (-128 ≤ G.hg.y ∧ G.hg.y ≤ 128) := by
  have hc := h.chk
  unfold OL.check at hc
  repeat' (split at hc; first | cases hc | skip)
  rename_i h1 h2 h3 h4 h5 h6
  have h4' : OL.anchors G.an G.hg = true := by cases hb : OL.anchors G.an G.hg with | true => rfl | false => exact absurd hb h4
  unfold OL.anchors at h4'
  rw [Bool.and_eq_true] at h4'
  have go : ∀ (A : List Ac) (la : Int), OL.anGo la A = true → ∀ a ∈ A, OL.co a.x = true ∧ OL.co a.y = true := fun A => by
    induction A with
    | nil => intro la _ a ha; cases ha
    | cons b A ih =>
      intro la hg a ha
      unfold OL.anGo at hg
      simp only [Bool.and_eq_true] at hg
      rcases List.mem_cons.1 ha with rfl | ha
      · exact hg.1.2.2
      · exact ih _ hg.2 a ha
  refine ⟨fun p hp => ?_, ?_⟩
  · unfold Go.Proofs.Ytanppbdlcinpfaa.nums at hp
    rcases List.mem_append.1 hp with h7 | h7
    · obtain ⟨c, hc1, hcp⟩ := List.mem_flatMap.1 h7
      obtain ⟨z, hz, rfl⟩ := List.mem_map.1 hcp
      have h8 := (h.cs c hc1).2.2 z hz
      rw [Bool.and_eq_true] at h8
      exact ⟨co_iff h8.1, co_iff h8.2⟩
    · obtain ⟨z, hz, rfl⟩ := List.mem_map.1 h7
      have h8 := go _ _ h4'.1 z hz
      exact ⟨co_iff h8.1, co_iff h8.2⟩
  · have h8 := h4'.2
    unfold OL.hang at h8
    split at h8
    · rw [decide_eq_true_eq] at h8
      rw [h8]
      exact ⟨⟨by decide, by decide⟩, ⟨by decide, by decide⟩⟩
    · simp only [Bool.and_eq_true] at h8
      exact ⟨co_iff h8.2.2.1, co_iff h8.2.2.2⟩
/-- What is drawn of a glyph that was made. -/
theorem MkOk.small {G : Gl} {m : Nat} (h : MkOk G m) (R : List (List AX.Tn)) (at' : List Int) : ∀ z ∈ OL.nl (OL.draw G R at'), -20000 ≤ z ∧ z ≤ 20000 := by
  obtain ⟨h1, h2, h3⟩ := h.nums
  intro z hz
  unfold OL.nl OL.draw at hz
  rcases List.mem_append.1 hz with h4 | h4
  · exact flat_mem (P := fun z => -20000 ≤ z ∧ z ≤ 20000) (nums_t (P := fun z => -20000 ≤ z ∧ z ≤ 20000) (Q := fun x => -128 ≤ x ∧ x ≤ 128) (fun k q x hx => h.sx R at' k q hx.1 hx.2) _ _ _ _ h1) z h4
  · simp only [List.mem_cons, List.not_mem_nil, or_false] at h4
    rcases h4 with rfl | rfl | rfl
    · exact h.sx R at' _ _ h2.1 h2.2
    · exact h.sx R at' _ _ h3.1 h3.2
    · exact h.av R at'
theorem MkOk.at_ok {G : Gl} {m n : Nat} (h : MkOk G m) {R : List (List AX.Tn)} (hr : R.length = m) (hR : ∀ r ∈ R, AX.right r (n : Nat) = true ∧ r.length = n) (hn : n ≤ 3) (L : List Int) : OL.at G R (AX.mkAt L n) = (OL.draw G R (AX.mkAt L n), 0) := by
  unfold OL.at
  rw [hr, if_neg (by rw [h.chk]; simp), if_neg (by rw [AX.mkAt_coords L hn]; simp), if_neg]
  rw [AX.mkAt_len, Bool.not_eq_false, List.all_eq_true]
  exact fun r hx => (hR r hx).1
/-- One number scaled. -/
def sz1 (n x : Int) : Int := F.FP.rnd (x * n) 64
theorem sz_ok {n x : Int} (hn : 4 ≤ n ∧ n ≤ 32) (h0 : -20000 ≤ x ∧ x ≤ 20000) : F.FP.mulS x n = (sz1 n x, true) := by
  unfold F.FP.mulS
  rw [if_pos ⟨by unfold F.FP.sm; omega, by unfold F.FP.sm; omega⟩]
  rfl
theorem okb_all {f : Nat → Bool} : ∀ {n : Nat}, (∀ t, t < n → f t = true) → okb f n = true
  | 0, _ => rfl
  | n + 1, h => by
    show (okb f n && f n) = true
    rw [okb_all (fun t ht => h t (by omega)), h n (by omega)]
    rfl
theorem numAt_of {N : List (Int × Int)} {P : Int → Prop} (hN : ∀ p ∈ N, P p.1 ∧ P p.2) {t : Nat} (ht : t < 2 * N.length) : P (numAt N t) := by
  have h1 : t / 2 < N.length := by omega
  have h2 := hN _ (List.getElem_mem h1)
  unfold numAt
  rw [List.getD_eq_getElem?_getD, List.getElem?_eq_getElem h1]
  split
  · exact h2.1
  · exact h2.2
theorem nums_sz (n : Int) : ∀ (C : List (List Pt)) (A : List Ac) (k0 k1 : Nat), (∀ p ∈ nums C A, (-20000 ≤ p.1 ∧ p.1 ≤ 20000) ∧ (-20000 ≤ p.2 ∧ p.2 ≤ 20000)) → (4 ≤ n ∧ n ≤ 32) → nums (tcs (OL.sz n) k0 C) (tan (OL.sz n) k1 A) = (nums C A).map fun p => (sz1 n p.1, sz1 n p.2) := fun C A k0 k1 h hn => by
  have hz : ∀ k q x, (-20000 ≤ x ∧ x ≤ 20000) → OL.sz n k q x = sz1 n x := fun k q x hx => by unfold OL.sz; rw [sz_ok hn hx]
  have hlen : (nums (tcs (OL.sz n) k0 C) (tan (OL.sz n) k1 A)).length = (nums C A).length := by
    rw [nums_len, nums_len, tan_len]
    congr 1
    clear h
    unfold OL.pts
    induction C generalizing k0 with
    | nil => rfl
    | cons c C ih =>
      show ((tct (OL.sz n) k0 c).length :: (tcs (OL.sz n) (k0 + c.length) C).map List.length).sum = _
      rw [List.sum_cons, ih, tct_len, List.map_cons, List.sum_cons]
  unfold nums at h ⊢
  rw [List.map_append]
  congr 1
  · clear hlen
    induction C generalizing k0 with
    | nil => rfl
    | cons c C ih =>
      show ((tct (OL.sz n) k0 c).map (fun p => (p.x, p.y)) ++ (tcs (OL.sz n) (k0 + c.length) C).flatMap fun c => c.map fun p => (p.x, p.y)) = _
      rw [ih _ (fun p hp => h p (by
        rcases List.mem_append.1 hp with h1 | h1
        · exact List.mem_append_left _ (by rw [List.flatMap_cons]; exact List.mem_append_right _ h1)
        · exact List.mem_append_right _ h1)), List.flatMap_cons, List.map_append]
      congr 1
      refine List.ext_getElem? fun j => ?_
      rw [List.getElem?_map, tct_at, List.getElem?_map, List.getElem?_map]
      cases hj : c[j]? with
      | none => rfl
      | some z =>
        have hz2 := h (z.x, z.y) (List.mem_append_left _ (by rw [List.flatMap_cons]; exact List.mem_append_left _ (List.mem_map.2 ⟨z, List.mem_of_getElem? hj, rfl⟩)))
        show some (OL.sz n (k0 + j) 0 z.x, OL.sz n (k0 + j) 1 z.y) = some (sz1 n z.x, sz1 n z.y)
        rw [hz _ _ _ hz2.1, hz _ _ _ hz2.2]
  · refine List.ext_getElem? fun j => ?_
    rw [List.getElem?_map, tan_at, List.getElem?_map, List.getElem?_map]
    cases hj : A[j]? with
    | none => rfl
    | some z =>
      have hz2 := h (z.x, z.y) (List.mem_append_right _ (List.mem_map.2 ⟨z, List.mem_of_getElem? hj, rfl⟩))
      show some (OL.sz n (k1 + j) 0 z.x, OL.sz n (k1 + j) 1 z.y) = some (sz1 n z.x, sz1 n z.y)
      rw [hz _ _ _ hz2.1, hz _ _ _ hz2.2]
theorem scale_nl {D : Dr} {n : Int} (hn : 4 ≤ n ∧ n ≤ 32) (h : ∀ z ∈ OL.nl D, -20000 ≤ z ∧ z ≤ 20000) : OL.nl (OL.scale D n) = (OL.nl D).map (sz1 n) := by
  have hp : ∀ p ∈ nums D.cs D.an, (-20000 ≤ p.1 ∧ p.1 ≤ 20000) ∧ (-20000 ≤ p.2 ∧ p.2 ≤ 20000) := fun p hp =>
    ⟨h _ (List.mem_append_left _ (List.mem_flatMap.2 ⟨p, hp, List.mem_cons_self ..⟩)), h _ (List.mem_append_left _ (List.mem_flatMap.2 ⟨p, hp, List.mem_cons_of_mem _ (List.mem_cons_self ..)⟩))⟩
  have hx := h D.hg.x (List.mem_append_right _ (List.mem_cons_self ..))
  have hy := h D.hg.y (List.mem_append_right _ (List.mem_cons_of_mem _ (List.mem_cons_self ..)))
  have ha := h D.ad (List.mem_append_right _ (List.mem_cons_of_mem _ (List.mem_cons_of_mem _ (List.mem_cons_self ..))))
  have hok : okb (okF (nums D.cs D.an) n) (2 * (OL.pts D.cs + D.an.length)) = true := okb_all fun t ht => by
    unfold okF
    have := numAt_of (P := fun z => -20000 ≤ z ∧ z ≤ 20000) hp (t := t) (by rw [nums_len]; exact ht)
    rw [sz_ok hn this]
  unfold OL.scale
  rw [if_neg (by omega), hok, sz_ok hn hx, sz_ok hn hy, sz_ok hn ha]
  rw [if_pos (show (true && true && true && true) = true from rfl)]
  unfold OL.nl
  dsimp only
  rw [nums_sz n _ _ _ _ hp hn, List.map_append]
  congr 1
  unfold OL.flat
  induction nums D.cs D.an with
  | nil => rfl
  | cons p l ih => rw [List.map_cons, List.flatMap_cons, List.flatMap_cons, List.map_append, ih]; rfl
theorem sz1_near {n x : Int} : -64 ≤ 2 * (64 * sz1 n x - n * x) ∧ 2 * (64 * sz1 n x - n * x) ≤ 64 := by
  unfold sz1 F.FP.rnd
  have e := Int.mul_ediv_add_emod (x * n) 64
  have e1 : n * x = x * n := Int.mul_comm _ _
  rw [e1]
  split <;> omega
theorem sz1_mono {n x y : Int} (hn : 0 ≤ n) (h : x ≤ y) : sz1 n x ≤ sz1 n y := by
  unfold sz1 F.FP.rnd
  have h1 : x * n ≤ y * n := Int.mul_le_mul_of_nonneg_right h hn
  have e := Int.mul_ediv_add_emod (x * n) 64
  have e2 := Int.mul_ediv_add_emod (y * n) 64
  split <;> split <;> omega
theorem sz1_bd {n x : Int} (hn : 4 ≤ n ∧ n ≤ 32) (h : -20000 ≤ x ∧ x ≤ 20000) : -20000 ≤ sz1 n x ∧ sz1 n x ≤ 20000 := by
  have h1 : x * n ≤ 20000 * n := Int.mul_le_mul_of_nonneg_right h.2 (by omega)
  have h2 : -20000 * n ≤ x * n := Int.mul_le_mul_of_nonneg_right h.1 (by omega)
  unfold sz1 F.FP.rnd
  have e := Int.mul_ediv_add_emod (x * n) 64
  split <;> omega
end Go.Proofs.Ytanppbdlcinpfaa
