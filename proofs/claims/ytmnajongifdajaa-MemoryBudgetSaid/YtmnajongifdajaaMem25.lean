/- The reference's memory: drop, pin, use. No conditions. -/
import Derived.Test.YtmnajongifdajaaMem24
namespace Go.Proofs.Ytmnajongifdajaa
set_option maxRecDepth 100000
set_option linter.unusedVariables false
open Go.RowKit Go.Deep ME
theorem p_cases (P : List En) (k : K4) : (∀ e ∈ P, e.key ≠ k) ∨ ∃ A e C, P = A ++ e :: C ∧ e.key = k := by
  by_cases h : ∃ e ∈ P, e.key = k
  · obtain ⟨e, he, hk⟩ := h
    obtain ⟨A, C, rfl⟩ := List.append_of_mem he
    exact .inr ⟨A, e, C, rfl, hk⟩
  · exact .inl fun e he hk => h ⟨e, he, hk⟩
theorem src_blk {w : World} {b : Nat} {e : En} (h : w.heap[b]? = some (.cells #[.int .i64 e.f, .int .i64 e.k, .int .i64 e.n, .int .i64 e.r, .int .i64 e.size, .bool e.pin] 55 (0, 0))) : SrcN 6 w (.slice (some ⟨b, 0, none⟩) 1 1) 1 (ME.kpL e) :=
  ⟨_, 1, rfl, rfl, .inr ⟨b, 0, rfl, (Array.getElem?_eq_some_iff.1 h).1, fun j u hu => by
    rw [Nat.zero_add]
    exact nd_cell h (by simpa [ME.kpL] using hu)⟩⟩
set_option maxHeartbeats 2000000 in
theorem rdrop_any (W : World) (r : Nat) (bu : Int) (P : List En) (G : Nat → Prop) (k : K4) (h : RrAt W r bu P G) (ok : ME.Ok bu P) (hlen : P.length ≤ 1000000) :
    Calls Try.prog 37 #[ptr r, kyV k] W fun x w' => x = .returned (.int .i64 (ME.drop k P).2) ∧ RrP W w' r bu (ME.drop k P).1 G := by
  have hb := balloc (Below.refl _ W) (.cells #[.int .i64 k.1, .int .i64 k.2.1, .int .i64 k.2.2.1, .int .i64 k.2.2.2] 34)
  have bx := heap_alloc_new W (.cells #[.int .i64 k.1, .int .i64 k.2.1, .int .i64 k.2.2.1, .int .i64 k.2.2.2] 34)
  obtain ⟨W1, hW1⟩ : ∃ W1, W.alloc (.cells #[.int .i64 k.1, .int .i64 k.2.1, .int .i64 k.2.2.1, .int .i64 k.2.2.2] 34) = W1 := ⟨_, rfl⟩
  rw [hW1] at bx hb
  have h1 := h.below hb
  have HFD := Lib.hid (rfind_any W1 r bu P G k h1 hlen)
  have x0 : W1.cell? ⟨W.heap.size, 0, none⟩ = some (.int .i64 k.1) := nd_cell bx rfl
  have x1 : W1.cell? ⟨W.heap.size, 1, none⟩ = some (.int .i64 k.2.1) := nd_cell bx rfl
  have x2 : W1.cell? ⟨W.heap.size, 2, none⟩ = some (.int .i64 k.2.2.1) := nd_cell bx rfl
  have x3 : W1.cell? ⟨W.heap.size, 3, none⟩ = some (.int .i64 k.2.2.2) := nd_cell bx rfl
  have HW := Lib.hid hb
  rcases p_cases P k with hno | ⟨A, e, C, rfl, rfl⟩
  · rw [ME.fi_none hno] at HFD
    have hu : ME.drop k P = (P, 5) := by unfold ME.drop; rw [ME.fnd_none hno]
    rw [hu]
    clear hu
    go_enter Try.func37, Try.ntmps37
    go_wp2_with fail
    try rw [hW1]
    go_at_call 40
    refine HFD.out.mono ?_
    rintro x w2 ⟨rfl, hb2⟩
    have HFI := Lib.hid (RrP.same h (bnext HW.out hb2))
    clear hb2 x0 x1 x2 x3 bx hb hW1 h h1
    go_wp2
    go_ret
    exact ⟨rfl, HFI.out⟩
  · have hnd := ok.keys
    rw [ME.fi_mid rfl (ME.mid_keys hnd).1] at HFD
    cases hpin : e.pin with
    | true =>
      have hu : ME.drop e.key (A ++ e :: C) = (A ++ e :: C, 51) := by
        unfold ME.drop
        rw [ME.fnd_mid hnd]
        simp only
        rw [if_pos hpin]
      rw [hu]
      clear hu
      go_enter Try.func37, Try.ntmps37
      go_wp2_with fail
      try rw [hW1]
      go_at_call 40
      refine HFD.out.mono ?_
      rintro x w2 ⟨rfl, hb2⟩
      have h2 := h1.below hb2
      have HB2 := Lib.hid (bnext HW.out hb2)
      have hlp : (A.length : Int) < ((A ++ e :: C).length : Int) := by simp; omega
      obtain ⟨⟨v, hr, hrow, hvG⟩, -, -⟩ := id h2
      obtain ⟨va, vc, rfl⟩ := own_shape hrow
      obtain ⟨n, hn⟩ : ∃ n, (A ++ e :: C).length = n := ⟨_, rfl⟩
      rw [hn] at hr hrow hlp
      have hgt : (A ++ e :: C)[A.length]? = some e := by simp
      obtain ⟨p, hp⟩ : ∃ p, A.length = p := ⟨_, rfl⟩
      rw [hp] at hgt hlp ⊢
      obtain ⟨g, rfl, hgl, k0, k1, k2, k3, k4, k5⟩ := kept_at hrow hgt (by omega)
      obtain ⟨c0, c1, c2⟩ := rmem_cells hr
      have hp0 : (0 : Int) ≤ (p : Int) := by omega
      have hp1 : ¬ (p : Int) < 0 := by omega
      rw [hpin] at k5
      have HFI := Lib.hid (RrP.same h HB2.out)
      clear hb2 x0 x1 x2 x3 bx hb hW1 h h1 h2 hr hrow hp hn hgt k0 k1 k2 k3 k4 HFD
      go_wp2
      go_ret
      exact ⟨rfl, HFI.out⟩
    | false =>
      have hu : ME.drop e.key (A ++ e :: C) = (A ++ C, 0) := by
        unfold ME.drop
        rw [ME.fnd_mid hnd]
        simp only
        rw [if_neg (by rw [hpin]; decide), ME.wo_mid hnd]
      rw [hu]
      clear hu
      go_enter Try.func37, Try.ntmps37
      go_wp2_with fail
      try rw [hW1]
      go_at_call 40
      refine HFD.out.mono ?_
      rintro x w2 ⟨rfl, hb2⟩
      have h2 := h1.below hb2
      have HB2 := Lib.hid (bnext HW.out hb2)
      have hlp : (A.length : Int) < ((A ++ e :: C).length : Int) := by simp; omega
      obtain ⟨⟨v, hr, hrow, hvG⟩, -, -⟩ := id h2
      obtain ⟨va, vc, rfl⟩ := own_shape hrow
      obtain ⟨n, hn⟩ : ∃ n, (A ++ e :: C).length = n := ⟨_, rfl⟩
      rw [hn] at hr hrow hlp
      have hgt : (A ++ e :: C)[A.length]? = some e := by simp
      obtain ⟨p, hp⟩ : ∃ p, A.length = p := ⟨_, rfl⟩
      rw [hp] at hgt hlp ⊢
      obtain ⟨g, rfl, hgl, k0, k1, k2, k3, k4, k5⟩ := kept_at hrow hgt (by omega)
      obtain ⟨c0, c1, c2⟩ := rmem_cells hr
      have hp0 : (0 : Int) ≤ (p : Int) := by omega
      have hp1 : ¬ (p : Int) < 0 := by omega
      rw [hpin] at k5
      have HWO := Lib.hid (rwithout_any w2 r bu A C e G h2 hlen)
      rw [hp] at HWO
      have HH := Lib.hid h
      have HH2 := Lib.hid h2
      clear hb2 x0 x1 x2 x3 bx hb hW1 h h1 h2 hr hrow hp hn hgt k0 k1 k2 k3 k4 HFD
      go_wp2_with fail
      go_at_call 41
      refine HWO.out.mono ?_
      rintro x w3 ⟨v3, rfl, hown3, hb3⟩
      have h3 := HH2.out.below hb3
      obtain ⟨⟨v', hr3, -, -⟩, -, -⟩ := id h3
      obtain ⟨d0, d1, d2⟩ := rmem_cells hr3
      have hfz : w3.frozen? ⟨r, 2, none⟩ = false := by simp [World.frozen?, hr3]
      have hput := h3.put (P' := A ++ C) hown3 HH2.out.lt
      have HFI : Hid (RrP W (w3.setCell ⟨r, 2, none⟩ v3) r bu (A ++ C) G) := Lib.hid ⟨⟨_, hput, fun b hb => hb.imp id (fun z => Nat.le_trans HB2.out.size z.1)⟩, (FrS.of (bnext HB2.out hb3)).trans (FrS.set (S := G) _ (b := r) HH.out.gr _)⟩
      obtain ⟨nl, hnl⟩ : ∃ nl, (A ++ C).length = nl := ⟨_, rfl⟩
      rw [hnl] at hown3
      obtain ⟨oa3, oc3, rfl⟩ := own_shape hown3
      clear hnl hput h3 hr3 hown3 hb3 HWO c0 c1 c2 k5
      go_wp2
      go_ret
      exact ⟨rfl, HFI.out⟩
theorem kp_set {A C : List En} {e : En} (on : Bool) : (ME.kp (A ++ e :: C)).set (A.length * 6 + 5) (.bool on) = ME.kp (A ++ { e with pin := on } :: C) := by
  unfold ME.kp
  rw [List.flatMap_append, List.flatMap_append, List.flatMap_cons, List.flatMap_cons]
  have hl : (A.flatMap kpL).length = A.length * 6 := flat_len ME.kpL_len A
  rw [List.set_append_right _ _ (by rw [hl]; omega), hl, show A.length * 6 + 5 - A.length * 6 = 5 by omega]
  rfl
set_option maxHeartbeats 2000000 in
theorem rpin_any (W : World) (r : Nat) (bu : Int) (P : List En) (G : Nat → Prop) (k : K4) (on : Bool) (h : RrAt W r bu P G) (ok : ME.Ok bu P) (hlen : P.length ≤ 1000000) :
    Calls Try.prog 36 #[ptr r, kyV k, .bool on] W fun x w' => x = .returned (.int .i64 (ME.pin k on P).2) ∧ RrP W w' r bu (ME.pin k on P).1 G := by
  have hb := balloc (Below.refl _ W) (.cells #[.int .i64 k.1, .int .i64 k.2.1, .int .i64 k.2.2.1, .int .i64 k.2.2.2] 34)
  have bx := heap_alloc_new W (.cells #[.int .i64 k.1, .int .i64 k.2.1, .int .i64 k.2.2.1, .int .i64 k.2.2.2] 34)
  obtain ⟨W1, hW1⟩ : ∃ W1, W.alloc (.cells #[.int .i64 k.1, .int .i64 k.2.1, .int .i64 k.2.2.1, .int .i64 k.2.2.2] 34) = W1 := ⟨_, rfl⟩
  rw [hW1] at bx hb
  have h1 := h.below hb
  have HFD := Lib.hid (rfind_any W1 r bu P G k h1 hlen)
  have x0 : W1.cell? ⟨W.heap.size, 0, none⟩ = some (.int .i64 k.1) := nd_cell bx rfl
  have x1 : W1.cell? ⟨W.heap.size, 1, none⟩ = some (.int .i64 k.2.1) := nd_cell bx rfl
  have x2 : W1.cell? ⟨W.heap.size, 2, none⟩ = some (.int .i64 k.2.2.1) := nd_cell bx rfl
  have x3 : W1.cell? ⟨W.heap.size, 3, none⟩ = some (.int .i64 k.2.2.2) := nd_cell bx rfl
  have HW := Lib.hid hb
  rcases p_cases P k with hno | ⟨A, e, C, rfl, rfl⟩
  · rw [ME.fi_none hno] at HFD
    have hu : ME.pin k on P = (P, 5) := by unfold ME.pin; rw [ME.fnd_none hno]
    rw [hu]
    clear hu
    go_enter Try.func36, Try.ntmps36
    go_wp2_with fail
    try rw [hW1]
    go_at_call 40
    refine HFD.out.mono ?_
    rintro x w2 ⟨rfl, hb2⟩
    have HFI := Lib.hid (RrP.same h (bnext HW.out hb2))
    clear hb2 x0 x1 x2 x3 bx hb hW1 h h1
    go_wp2
    go_ret
    exact ⟨rfl, HFI.out⟩
  · have hnd := ok.keys
    rw [ME.fi_mid rfl (ME.mid_keys hnd).1] at HFD
    have hu : ME.pin e.key on (A ++ e :: C) = (A ++ { e with pin := on } :: C, 0) := by
      unfold ME.pin
      rw [ME.fnd_mid hnd]
      simp only
      rw [ME.pin_mid hnd]
    rw [hu]
    clear hu
    go_enter Try.func36, Try.ntmps36
    go_wp2_with fail
    try rw [hW1]
    go_at_call 40
    refine HFD.out.mono ?_
    rintro x w2 ⟨rfl, hb2⟩
    have h2 := h1.below hb2
    have HB2 := Lib.hid (bnext HW.out hb2)
    have hlp : (A.length : Int) < ((A ++ e :: C).length : Int) := by simp; omega
    obtain ⟨⟨v, hr, hrow, hvG⟩, -, -⟩ := id h2
    obtain ⟨va, vc, rfl⟩ := own_shape hrow
    obtain ⟨n, hn⟩ : ∃ n, (A ++ e :: C).length = n := ⟨_, rfl⟩
    rw [hn] at hr hrow hlp
    have hgt : (A ++ e :: C)[A.length]? = some e := by simp
    obtain ⟨p, hp⟩ : ∃ p, A.length = p := ⟨_, rfl⟩
    rw [hp] at hgt hlp ⊢
    obtain ⟨g, rfl, hgl, k0, k1, k2, k3, k4, k5⟩ := kept_at hrow hgt (by omega)
    obtain ⟨c0, c1, c2⟩ := rmem_cells hr
    have hp0 : (0 : Int) ≤ (p : Int) := by omega
    have hp1 : ¬ (p : Int) < 0 := by omega
    have f5 := hrow.frozenAt (p * 6 + 5)
    obtain ⟨hst, hgr⟩ := hrow.stored (p * 6 + 5) (.bool on)
    rw [← hp, kp_set] at hst
    rw [hp] at hst
    have hgG := (hvG g rfl).1
    have hrg := (hvG g rfl).2
    have HFI : Hid (RrP W (w2.setCell ⟨g, p * 6 + 5, none⟩ (.bool on)) r bu (A ++ { e with pin := on } :: C) G) := Lib.hid ⟨⟨G, ⟨⟨_, (Below.heap_setCell w2 ⟨g, p * 6 + 5, none⟩ _ r hrg).trans hr, by rw [show (A ++ { e with pin := on } :: C).length = n by rw [← hn]; simp]; exact hst, fun q e => hvG q e⟩, h.gr, fun b hb => by simpa using h2.lt b hb⟩, fun b hb => .inl hb⟩, (FrS.of HB2.out).trans (FrS.set (S := G) _ (b := g) hgG _)⟩
    clear hst hgr hb2 x0 x1 x2 x3 bx hb hW1 h h1 h2 hr hrow hp hn hgt k0 k1 k2 k3 k4 HFD hvG
    go_wp2
    go_ret
    exact ⟨rfl, HFI.out⟩
set_option maxHeartbeats 4000000 in
theorem ruse_any (W : World) (r : Nat) (bu : Int) (P : List En) (G : Nat → Prop) (k : K4) (h : RrAt W r bu P G) (ok : ME.Ok bu P) (hlen : P.length ≤ 1000000) :
    Calls Try.prog 35 #[ptr r, kyV k] W fun x w' => x = .returned (.bool (ME.use k P).2) ∧ RrP W w' r bu (ME.use k P).1 G := by
  obtain ⟨i0, hi0, hz0, hz1, hz2⟩ := info_parts info_kept
  have hb := balloc (Below.refl _ W) (.cells #[.int .i64 k.1, .int .i64 k.2.1, .int .i64 k.2.2.1, .int .i64 k.2.2.2] 34)
  have bx := heap_alloc_new W (.cells #[.int .i64 k.1, .int .i64 k.2.1, .int .i64 k.2.2.1, .int .i64 k.2.2.2] 34)
  obtain ⟨W1, hW1⟩ : ∃ W1, W.alloc (.cells #[.int .i64 k.1, .int .i64 k.2.1, .int .i64 k.2.2.1, .int .i64 k.2.2.2] 34) = W1 := ⟨_, rfl⟩
  rw [hW1] at bx hb
  have h1 := h.below hb
  have HFD := Lib.hid (rfind_any W1 r bu P G k h1 hlen)
  have x0 : W1.cell? ⟨W.heap.size, 0, none⟩ = some (.int .i64 k.1) := nd_cell bx rfl
  have x1 : W1.cell? ⟨W.heap.size, 1, none⟩ = some (.int .i64 k.2.1) := nd_cell bx rfl
  have x2 : W1.cell? ⟨W.heap.size, 2, none⟩ = some (.int .i64 k.2.2.1) := nd_cell bx rfl
  have x3 : W1.cell? ⟨W.heap.size, 3, none⟩ = some (.int .i64 k.2.2.2) := nd_cell bx rfl
  have HW := Lib.hid hb
  rcases p_cases P k with hno | ⟨A, e, C, rfl, rfl⟩
  · rw [ME.fi_none hno] at HFD
    have hu : ME.use k P = (P, false) := by unfold ME.use; rw [ME.fnd_none hno]
    rw [hu]
    clear hu
    go_enter Try.func35, Try.ntmps35
    go_wp2_with fail
    try rw [hW1]
    go_at_call 40
    refine HFD.out.mono ?_
    rintro x w2 ⟨rfl, hb2⟩
    have HFI := Lib.hid (RrP.same h (bnext HW.out hb2))
    clear hb2 x0 x1 x2 x3 bx hb hW1 h h1
    go_wp2
    go_ret
    exact ⟨rfl, HFI.out⟩
  · have hnd := ok.keys
    rw [ME.fi_mid rfl (ME.mid_keys hnd).1] at HFD
    have hu : ME.use e.key (A ++ e :: C) = ((A ++ C) ++ [e], true) := by
      unfold ME.use
      rw [ME.fnd_mid hnd]
      simp only
      rw [ME.wo_mid hnd]
    rw [hu]
    clear hu
    go_enter Try.func35, Try.ntmps35
    go_wp2_with fail
    try rw [hW1]
    go_at_call 40
    refine HFD.out.mono ?_
    rintro x w2 ⟨rfl, hb2⟩
    have h2 := h1.below hb2
    have HB2 := Lib.hid (bnext HW.out hb2)
    have hlp : (A.length : Int) < ((A ++ e :: C).length : Int) := by simp; omega
    obtain ⟨⟨v, hr, hrow, hvG⟩, -, -⟩ := id h2
    obtain ⟨va, vc, rfl⟩ := own_shape hrow
    obtain ⟨n, hn⟩ : ∃ n, (A ++ e :: C).length = n := ⟨_, rfl⟩
    rw [hn] at hr hrow hlp
    have hgt : (A ++ e :: C)[A.length]? = some e := by simp
    obtain ⟨p, hp⟩ : ∃ p, A.length = p := ⟨_, rfl⟩
    rw [hp] at hgt hlp ⊢
    obtain ⟨g, rfl, hgl, k0, k1, k2, k3, k4, k5⟩ := kept_at hrow hgt (by omega)
    obtain ⟨c0, c1, c2⟩ := rmem_cells hr
    have hp0 : (0 : Int) ≤ (p : Int) := by omega
    have hp1 : ¬ (p : Int) < 0 := by omega
    obtain ⟨X, hX⟩ : ∃ X, w2.heap.size = X := ⟨_, rfl⟩
    have by4 := heap_alloc_new w2 (.cells #[.int .i64 e.f, .int .i64 e.k, .int .i64 e.n, .int .i64 e.r, .int .i64 e.size, .bool e.pin] 55)
    have hb24 := balloc (Below.refl _ w2) (.cells #[.int .i64 e.f, .int .i64 e.k, .int .i64 e.n, .int .i64 e.r, .int .i64 e.size, .bool e.pin] 55)
    obtain ⟨W4, hW4⟩ : ∃ W4, w2.alloc (.cells #[.int .i64 e.f, .int .i64 e.k, .int .i64 e.n, .int .i64 e.r, .int .i64 e.size, .bool e.pin] 55) = W4 := ⟨_, rfl⟩
    rw [hW4] at by4 hb24
    rw [hX] at by4
    have h4 := h2.below hb24
    have HWO := Lib.hid fun V (hV : Below W4.heap.size W4 V) => rwithout_any V r bu A C e G (h4.below hV) hlen
    rw [hp] at HWO
    have HS : Hid (∀ V, Below W4.heap.size W4 V → (fun w' => w'.cell? ⟨X, 0, none⟩ = some (.int .i64 e.f) ∧ w'.cell? ⟨X, 1, none⟩ = some (.int .i64 e.k) ∧ w'.cell? ⟨X, 2, none⟩ = some (.int .i64 e.n) ∧ w'.cell? ⟨X, 3, none⟩ = some (.int .i64 e.r) ∧ w'.cell? ⟨X, 4, none⟩ = some (.int .i64 e.size) ∧ w'.cell? ⟨X, 5, none⟩ = some (.bool e.pin)) V) := Lib.hid fun V hV => by
      have hb := (hV.block X (Array.getElem?_eq_some_iff.1 by4).1).trans by4
      exact ⟨nd_cell hb rfl, nd_cell hb rfl, nd_cell hb rfl, nd_cell hb rfl, nd_cell hb rfl, nd_cell hb rfl⟩
    have hrX : r ≠ X := fun z => by have := h2.lt r h2.gr; omega
    have hXG : ¬ G X := fun z => by have := h2.lt X z; omega
    have HS9 : Hid (∀ V u, Below W4.heap.size W4 V → (fun w' => w'.cell? ⟨X, 0, none⟩ = some (.int .i64 e.f) ∧ w'.cell? ⟨X, 1, none⟩ = some (.int .i64 e.k) ∧ w'.cell? ⟨X, 2, none⟩ = some (.int .i64 e.n) ∧ w'.cell? ⟨X, 3, none⟩ = some (.int .i64 e.r) ∧ w'.cell? ⟨X, 4, none⟩ = some (.int .i64 e.size) ∧ w'.cell? ⟨X, 5, none⟩ = some (.bool e.pin)) (V.setCell ⟨r, 2, none⟩ u)) := Lib.hid fun V u hV => by
      have hb := (Below.heap_setCell V ⟨r, 2, none⟩ u X hrX.symm).trans ((hV.block X (Array.getElem?_eq_some_iff.1 by4).1).trans by4)
      exact ⟨nd_cell hb rfl, nd_cell hb rfl, nd_cell hb rfl, nd_cell hb rfl, nd_cell hb rfl, nd_cell hb rfl⟩
    have hbW4 := bnext HB2.out hb24
    have hlac : (A ++ C).length ≤ 1000000 := by
      rw [List.length_append, List.length_cons] at hlen
      rw [List.length_append]
      omega
    have HFIN : Hid (∀ V u, Below W4.heap.size W4 V → V.ownsRow W4.heap.size 55 6 u ((A ++ C).length + 1) (ME.kp (A ++ C) ++ ME.kpL e) → (∃ vv, V.cell? ⟨r, 2, none⟩ = some vv) ∧ V.frozen? ⟨r, 2, none⟩ = false ∧ RrP W (V.setCell ⟨r, 2, none⟩ u) r bu ((A ++ C) ++ [e]) G) := Lib.hid fun V u hV hu => by
      have h5 := h4.below hV
      obtain ⟨⟨v', hr3, -, -⟩, -, -⟩ := id h5
      refine ⟨⟨_, (rmem_cells hr3).2.2⟩, by simp [World.frozen?, hr3], ?_⟩
      have hu' : V.ownsRow W4.heap.size 55 6 u ((A ++ C) ++ [e]).length (ME.kp ((A ++ C) ++ [e])) := by
        rw [ME.kp_app, show ME.kp [e] = ME.kpL e by simp [ME.kp], show ((A ++ C) ++ [e]).length = (A ++ C).length + 1 by simp; omega]
        exact hu
      have hput := h5.put hu' h4.lt
      exact ⟨⟨_, hput, fun b hb => hb.imp id (fun z => Nat.le_trans hbW4.size z.1)⟩, (FrS.of (bnext hbW4 hV)).trans (FrS.set (S := G) _ (b := r) h2.gr _)⟩
    obtain ⟨nl, hnl⟩ : ∃ nl, (A ++ C).length = nl := ⟨_, rfl⟩
    rw [hnl] at HWO HFIN hlac
    clear hnl x0 x1 x2 x3 bx hb hW1 h h1 h2 h4 hr hrow hp hn hgt HFD hvG hbW4 hb24 by4 hrX hXG hb2
    have mixed : Try.prog.follows .mixedOrders = true := by kernel_rfl
    have hb2 : Below W4.heap.size W4 W4.drew := Below.drew (Below.refl _ _)
    go_upto_region 5 with fail
    try rw [hW4]
    try rw [hX]
    clear hW4 k0 k1 k2 k3 k4 k5 c0 c1 c2 hX
    refine wp_region_held_drew (S := (fun w' => w'.cell? ⟨X, 0, none⟩ = some (.int .i64 e.f) ∧ w'.cell? ⟨X, 1, none⟩ = some (.int .i64 e.k) ∧ w'.cell? ⟨X, 2, none⟩ = some (.int .i64 e.n) ∧ w'.cell? ⟨X, 3, none⟩ = some (.int .i64 e.r) ∧ w'.cell? ⟨X, 4, none⟩ = some (.int .i64 e.size) ∧ w'.cell? ⟨X, 5, none⟩ = some (.bool e.pin))) (by kernel_rfl) ?_ (fun hHeld => ?_)
    · exact HS.out _ hb2
    refine wpAnyH_take (i := 0) (oi := { dst := some 19, op := Op.move (Operand.tmp 0), type := 25, pos := "ref.go:91", after := #[], guard := none }) (v := ?_) rfl (by kernel_rfl) (by kernel_rfl) (by kernel_rfl) (fun _ _ _ h => h) (Or.inl ⟨by rfl, ?_⟩) (by assumption) ?_
    rotate_left
    · ((intro w hSw; (try dsimp only at hSw); go_simp; (try rw [if_neg (by omega)])); try with_reducible rfl)
    (try simp only [Act.put, List.setIfInBounds_toArray, List.set_cons_zero, List.set_cons_succ])
    refine wpAnyH_take (i := 1) (oi := { dst := some 20, op := Op.move (Operand.tmp 0), type := 25, pos := "ref.go:91", after := #[], guard := none }) (v := ?_) rfl (by kernel_rfl) (by kernel_rfl) (by kernel_rfl) (fun _ _ _ h => h) (Or.inl ⟨by rfl, ?_⟩) (by assumption) ?_
    rotate_left
    · ((intro w hSw; (try dsimp only at hSw); go_simp; (try rw [if_neg (by omega)])); try with_reducible rfl)
    (try simp only [Act.put, List.setIfInBounds_toArray, List.set_cons_zero, List.set_cons_succ])
    refine wpAnyH_take (i := 2) (oi := { dst := some 21, op := Op.move (Operand.tmp 5), type := 3, pos := "ref.go:91", after := #[], guard := none }) (v := ?_) rfl (by kernel_rfl) (by kernel_rfl) (by kernel_rfl) (fun _ _ _ h => h) (Or.inl ⟨by rfl, ?_⟩) (by assumption) ?_
    rotate_left
    · ((intro w hSw; (try dsimp only at hSw); go_simp; (try rw [if_neg (by omega)])); try with_reducible rfl)
    (try simp only [Act.put, List.setIfInBounds_toArray, List.set_cons_zero, List.set_cons_succ])
    refine wpAnyH_take (i := 4) (oi := { dst := some 23, op := Op.load 55 (Operand.tmp 6), type := 55, pos := "ref.go:91", after := #[], guard := none }) (v := ?_) rfl (by kernel_rfl) (by kernel_rfl) (by kernel_rfl) (fun _ _ _ h => h) (Or.inl ⟨by rfl, ?_⟩) (by assumption) ?_
    rotate_left
    · ((intro w hSw; (try dsimp only at hSw); go_simp; (try rw [if_neg (by omega)])); try with_reducible rfl)
    (try simp only [Act.put, List.setIfInBounds_toArray, List.set_cons_zero, List.set_cons_succ])
    refine wpAnyH_ready (rs := [3, 5]) (by kernel_rfl) (by simp) ?_
    refine AllReadyH.cons (o := { dst := some 22, op := Op.call { callee := Callee.value (Operand.func 41), args := #[Operand.tmp 20, Operand.tmp 21], argTypes := #[25, 3] }, type := 51, pos := "ref.go:91", after := #[{ on := 1, ground := Ground.data }, { on := 2, ground := Ground.data }], guard := none }) rfl (fun K hK => ?_) ?_
    · (go_simp; go_at_call 41; refine (HWO.out _ hb2).mono ?_; rintro x w3 ⟨v3, rfl, hown3, hbb3⟩; have hb3 : Below W4.heap.size W4 w3 := bnext hb2 hbb3; dsimp only)
      refine hK.out _ _ ?_ (fun hHeld => ?_)
      · exact HS.out _ hb3
      clear hK K
      (try simp only [Act.put, List.setIfInBounds_toArray, List.set_cons_zero, List.set_cons_succ])
      refine wpAnyH_ready (rs := [5]) (by kernel_rfl) (by simp) ?_
      refine AllReadyH.cons (o := { dst := some 24, op := Op.buildSlice 51 1 #[(0, Operand.tmp 23)], type := 51, pos := "ref.go:91", after := #[{ on := 4, ground := Ground.data }], guard := none }) rfl (fun K hK => ?_) ?_
      · (go_simp; have hb5 : Below W4.heap.size W4 (w3.alloc (.cells #[.int .i64 e.f, .int .i64 e.k, .int .i64 e.n, .int .i64 e.r, .int .i64 e.size, .bool e.pin] 55)) := bnext hb3 (balloc (Below.refl _ _) _); have hown5 := own_below hown3 (balloc (Below.refl w3.heap.size w3) (.cells #[.int .i64 e.f, .int .i64 e.k, .int .i64 e.n, .int .i64 e.r, .int .i64 e.size, .bool e.pin] 55)))
        refine hK.out _ _ ?_ (fun hHeld => ?_)
        · exact HS.out _ hb5
        clear hK K
        (try simp only [Act.put, List.setIfInBounds_toArray, List.set_cons_zero, List.set_cons_succ])
        refine wpAnyH_ready (rs := [6]) (by kernel_rfl) (by simp) ?_
        refine AllReadyH.cons (o := { dst := some 25, op := Op.call { callee := Callee.builtin Builtin.append, args := #[Operand.tmp 22, Operand.tmp 24], argTypes := #[51, 51] }, type := 51, pos := "ref.go:91", after := #[{ on := 3, ground := Ground.data }, { on := 5, ground := Ground.data }, { on := 3, ground := Ground.chain }], guard := none }) rfl (fun K hK => ?_) ?_
        · (refine step_appN (by rfl) _ _ _ (by rfl) W4.heap.size 55 i0 _ 6 48 Try.underlying51 hi0 hz0 hz1 hz2 rfl (by omega) v3 _ _ (by rfl) hown5 (.slice (some ⟨w3.heap.size, 0, none⟩) 1 1) 1 (ME.kpL e) (by rfl) (srcN_new w3 (ME.kpL e) 55 6 1 1 rfl) (by simp [ME.kpL, Value.oneCell']) (by unfold maxLen; omega) (by omega) hb5.size ?_; intro v6 w6 hown6 hg6 hat6; have hb6 : Below W4.heap.size W4 w6 := hb5.grown hg6 hb5.size (fun q e => (hown5.lt q e).1))
          refine hK.out _ _ ?_ (fun hHeld => ?_)
          · exact HS.out _ hb6
          clear hK K
          (try simp only [Act.put, List.setIfInBounds_toArray, List.set_cons_zero, List.set_cons_succ])
          refine wpAnyH_take (i := 7) (oi := { dst := some 26, op := Op.nilCheck (Operand.tmp 19), type := 0, pos := "ref.go:91", after := #[{ on := 0, ground := Ground.data }, { on := 0, ground := Ground.phase }, { on := 1, ground := Ground.phase }, { on := 2, ground := Ground.phase }, { on := 3, ground := Ground.phase }, { on := 4, ground := Ground.phase }, { on := 5, ground := Ground.phase }, { on := 6, ground := Ground.phase }], guard := none }) (v := ?_) rfl (by kernel_rfl) (by kernel_rfl) (by kernel_rfl) (fun _ _ _ h => h) (Or.inl ⟨by rfl, ?_⟩) (by assumption) ?_
          rotate_left
          · ((intro w hSw; (try dsimp only at hSw); go_simp; (try rw [if_neg (by omega)])); try with_reducible rfl)
          (try simp only [Act.put, List.setIfInBounds_toArray, List.set_cons_zero, List.set_cons_succ])
          refine wpAnyH_take (i := 8) (oi := { dst := some 27, op := Op.fieldAddr 53 (Operand.tmp 26) 2, type := 0, pos := "ref.go:91", after := #[{ on := 7, ground := Ground.data }, { on := 0, ground := Ground.phase }, { on := 1, ground := Ground.phase }, { on := 2, ground := Ground.phase }, { on := 3, ground := Ground.phase }, { on := 4, ground := Ground.phase }, { on := 5, ground := Ground.phase }, { on := 6, ground := Ground.phase }], guard := none }) (v := ?_) rfl (by kernel_rfl) (by kernel_rfl) (by kernel_rfl) (fun _ _ _ h => h) (Or.inl ⟨by rfl, ?_⟩) (by assumption) ?_
          rotate_left
          · ((intro w hSw; (try dsimp only at hSw); go_simp; (try rw [if_neg (by omega)])); try with_reducible rfl)
          (try simp only [Act.put, List.setIfInBounds_toArray, List.set_cons_zero, List.set_cons_succ])
          refine wpAnyH_ready (rs := [9]) (by kernel_rfl) (by simp) ?_
          refine AllReadyH.cons (o := { dst := none, op := Op.store 51 (Operand.tmp 27) (Operand.tmp 25), type := 0, pos := "ref.go:91", after := #[{ on := 8, ground := Ground.data }, { on := 6, ground := Ground.data }, { on := 6, ground := Ground.chain }, { on := 0, ground := Ground.phase }, { on := 1, ground := Ground.phase }, { on := 2, ground := Ground.phase }, { on := 3, ground := Ground.phase }, { on := 4, ground := Ground.phase }, { on := 5, ground := Ground.phase }, { on := 6, ground := Ground.phase }], guard := none }) rfl (fun K hK => ?_) ?_
          · (obtain ⟨⟨vv, hcr⟩, hfz, hfin2⟩ := HFIN.out w6 v6 hb6 hown6; have hown6' := hown6; obtain ⟨oa6, oc6, rfl⟩ := own_shape hown6'; go_simp; have hb9 : Below W4.heap.size W4 w6 := hb6)
            refine hK.out _ _ ?_ (fun hHeld => ?_)
            · exact (HS9.out _ _ hb6)
            clear hK K
            (try simp only [Act.put, List.setIfInBounds_toArray, List.set_cons_zero, List.set_cons_succ])
            refine wpAnyH_done (by kernel_rfl) ?_ _
            have HFF := Lib.hid hfin2
            go_wp2
            go_ret
            exact ⟨rfl, HFF.out⟩
          exact AllReadyH.nil
        exact AllReadyH.nil
      exact AllReadyH.nil
    refine AllReadyH.cons (o := { dst := some 24, op := Op.buildSlice 51 1 #[(0, Operand.tmp 23)], type := 51, pos := "ref.go:91", after := #[{ on := 4, ground := Ground.data }], guard := none }) rfl (fun K hK => ?_) ?_
    · (go_simp; have hb5 : Below W4.heap.size W4 (W4.alloc (.cells #[.int .i64 e.f, .int .i64 e.k, .int .i64 e.n, .int .i64 e.r, .int .i64 e.size, .bool e.pin] 55)).drew := Below.drew (balloc (Below.refl _ _) _))
      refine hK.out _ _ ?_ (fun hHeld => ?_)
      · exact HS.out _ hb5
      clear hK K
      (try simp only [Act.put, List.setIfInBounds_toArray, List.set_cons_zero, List.set_cons_succ])
      refine wpAnyH_ready (rs := [3]) (by kernel_rfl) (by simp) ?_
      refine AllReadyH.cons (o := { dst := some 22, op := Op.call { callee := Callee.value (Operand.func 41), args := #[Operand.tmp 20, Operand.tmp 21], argTypes := #[25, 3] }, type := 51, pos := "ref.go:91", after := #[{ on := 1, ground := Ground.data }, { on := 2, ground := Ground.data }], guard := none }) rfl (fun K hK => ?_) ?_
      · (go_simp; go_at_call 41; refine (HWO.out _ hb5).mono ?_; rintro x w3 ⟨v3, rfl, hown3', hbb3⟩; have hb3 : Below W4.heap.size W4 w3 := bnext hb5 hbb3; have hown3 := own_base hown3' hb5.size; have hlit : w3.heap[W4.heap.size]? = some (.cells #[.int .i64 e.f, .int .i64 e.k, .int .i64 e.n, .int .i64 e.r, .int .i64 e.size, .bool e.pin] 55 (0, 0)) := (hbb3.block _ (by simp)).trans (heap_alloc_new W4.drew _); have hsz3 : W4.heap.size < w3.heap.size := (Array.getElem?_eq_some_iff.1 hlit).1; dsimp only)
        refine hK.out _ _ ?_ (fun hHeld => ?_)
        · exact HS.out _ hb3
        clear hK K
        (try simp only [Act.put, List.setIfInBounds_toArray, List.set_cons_zero, List.set_cons_succ])
        refine wpAnyH_ready (rs := [6]) (by kernel_rfl) (by simp) ?_
        refine AllReadyH.cons (o := { dst := some 25, op := Op.call { callee := Callee.builtin Builtin.append, args := #[Operand.tmp 22, Operand.tmp 24], argTypes := #[51, 51] }, type := 51, pos := "ref.go:91", after := #[{ on := 3, ground := Ground.data }, { on := 5, ground := Ground.data }, { on := 3, ground := Ground.chain }], guard := none }) rfl (fun K hK => ?_) ?_
        · (refine step_appN (by rfl) _ _ _ (by rfl) W4.heap.size 55 i0 _ 6 48 Try.underlying51 hi0 hz0 hz1 hz2 rfl (by omega) v3 _ _ (by rfl) hown3 (.slice (some ⟨W4.heap.size, 0, none⟩) 1 1) 1 (ME.kpL e) (by rfl) (src_blk hlit) (by simp [ME.kpL, Value.oneCell']) (by unfold maxLen; omega) (by omega) hb3.size ?_; intro v6 w6 hown6 hg6 hat6; have hb6 : Below W4.heap.size W4 w6 := hb3.grown hg6 hb3.size (fun q e => (hown3.lt q e).1))
          refine hK.out _ _ ?_ (fun hHeld => ?_)
          · exact HS.out _ hb6
          clear hK K
          (try simp only [Act.put, List.setIfInBounds_toArray, List.set_cons_zero, List.set_cons_succ])
          refine wpAnyH_take (i := 7) (oi := { dst := some 26, op := Op.nilCheck (Operand.tmp 19), type := 0, pos := "ref.go:91", after := #[{ on := 0, ground := Ground.data }, { on := 0, ground := Ground.phase }, { on := 1, ground := Ground.phase }, { on := 2, ground := Ground.phase }, { on := 3, ground := Ground.phase }, { on := 4, ground := Ground.phase }, { on := 5, ground := Ground.phase }, { on := 6, ground := Ground.phase }], guard := none }) (v := ?_) rfl (by kernel_rfl) (by kernel_rfl) (by kernel_rfl) (fun _ _ _ h => h) (Or.inl ⟨by rfl, ?_⟩) (by assumption) ?_
          rotate_left
          · ((intro w hSw; (try dsimp only at hSw); go_simp; (try rw [if_neg (by omega)])); try with_reducible rfl)
          (try simp only [Act.put, List.setIfInBounds_toArray, List.set_cons_zero, List.set_cons_succ])
          refine wpAnyH_take (i := 8) (oi := { dst := some 27, op := Op.fieldAddr 53 (Operand.tmp 26) 2, type := 0, pos := "ref.go:91", after := #[{ on := 7, ground := Ground.data }, { on := 0, ground := Ground.phase }, { on := 1, ground := Ground.phase }, { on := 2, ground := Ground.phase }, { on := 3, ground := Ground.phase }, { on := 4, ground := Ground.phase }, { on := 5, ground := Ground.phase }, { on := 6, ground := Ground.phase }], guard := none }) (v := ?_) rfl (by kernel_rfl) (by kernel_rfl) (by kernel_rfl) (fun _ _ _ h => h) (Or.inl ⟨by rfl, ?_⟩) (by assumption) ?_
          rotate_left
          · ((intro w hSw; (try dsimp only at hSw); go_simp; (try rw [if_neg (by omega)])); try with_reducible rfl)
          (try simp only [Act.put, List.setIfInBounds_toArray, List.set_cons_zero, List.set_cons_succ])
          refine wpAnyH_ready (rs := [9]) (by kernel_rfl) (by simp) ?_
          refine AllReadyH.cons (o := { dst := none, op := Op.store 51 (Operand.tmp 27) (Operand.tmp 25), type := 0, pos := "ref.go:91", after := #[{ on := 8, ground := Ground.data }, { on := 6, ground := Ground.data }, { on := 6, ground := Ground.chain }, { on := 0, ground := Ground.phase }, { on := 1, ground := Ground.phase }, { on := 2, ground := Ground.phase }, { on := 3, ground := Ground.phase }, { on := 4, ground := Ground.phase }, { on := 5, ground := Ground.phase }, { on := 6, ground := Ground.phase }], guard := none }) rfl (fun K hK => ?_) ?_
          · (obtain ⟨⟨vv, hcr⟩, hfz, hfin2⟩ := HFIN.out w6 v6 hb6 hown6; have hown6' := hown6; obtain ⟨oa6, oc6, rfl⟩ := own_shape hown6'; go_simp; have hb9 : Below W4.heap.size W4 w6 := hb6)
            refine hK.out _ _ ?_ (fun hHeld => ?_)
            · exact (HS9.out _ _ hb6)
            clear hK K
            (try simp only [Act.put, List.setIfInBounds_toArray, List.set_cons_zero, List.set_cons_succ])
            refine wpAnyH_done (by kernel_rfl) ?_ _
            have HFF := Lib.hid hfin2
            go_wp2
            go_ret
            exact ⟨rfl, HFF.out⟩
          exact AllReadyH.nil
        exact AllReadyH.nil
      exact AllReadyH.nil
    exact AllReadyH.nil
end Go.Proofs.Ytmnajongifdajaa
