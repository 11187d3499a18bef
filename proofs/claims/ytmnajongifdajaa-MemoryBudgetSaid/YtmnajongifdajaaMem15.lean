/- Drop and Pin of a memory. No conditions. -/
import Derived.Test.YtmnajongifdajaaMem14
namespace Go.Proofs.Ytmnajongifdajaa
set_option maxRecDepth 100000
set_option linter.unusedVariables false
open Go.RowKit Go.Maps
set_option maxHeartbeats 2000000 in
theorem drop_any (W : World) (M mb root : Nat) (bu : Int) (L : List (Nat × En)) (n : Nat) (F : Nat → Prop) (k : K4) (hk : K4ok k) (h : MmAt W M mb root bu L n F) (ok : ME.Ok bu (L.map Prod.snd)) :
    Calls Try.prog 16 #[ptr M, kyV k] W fun x w' => x = .returned (.int .i64 (ME.drop k (L.map Prod.snd)).2) ∧ (∃ L', L'.map Prod.snd = (ME.drop k (L.map Prod.snd)).1 ∧ MmAt w' M mb root bu L' n F ∧ ME.Ok bu (L'.map Prod.snd)) ∧ FrS F W w' := by
  have hb := balloc (Below.refl _ W) (.cells #[.int .i64 k.1, .int .i64 k.2.1, .int .i64 k.2.2.1, .int .i64 k.2.2.2] 34)
  have bx := heap_alloc_new W (.cells #[.int .i64 k.1, .int .i64 k.2.1, .int .i64 k.2.2.1, .int .i64 k.2.2.2] 34)
  obtain ⟨W1, hW1⟩ : ∃ W1, W.alloc (.cells #[.int .i64 k.1, .int .i64 k.2.1, .int .i64 k.2.2.1, .int .i64 k.2.2.2] 34) = W1 := ⟨_, rfl⟩
  rw [hW1] at bx hb
  have h1 := h.below hb
  have HFD := Lib.hid (find_any W1 M mb root bu L n F k hk h1)
  have x0 : W1.cell? ⟨W.heap.size, 0, none⟩ = some (.int .i64 k.1) := nd_cell bx rfl
  have x1 : W1.cell? ⟨W.heap.size, 1, none⟩ = some (.int .i64 k.2.1) := nd_cell bx rfl
  have x2 : W1.cell? ⟨W.heap.size, 2, none⟩ = some (.int .i64 k.2.2.1) := nd_cell bx rfl
  have x3 : W1.cell? ⟨W.heap.size, 3, none⟩ = some (.int .i64 k.2.2.2) := nd_cell bx rfl
  have HW := Lib.hid hb
  rcases look_cases ok k with ⟨hl, hno⟩ | ⟨A, b, e, C, rfl, rfl, hl⟩
  · rw [hl] at HFD
    have hu : ME.drop k (L.map Prod.snd) = (L.map Prod.snd, 5) := by unfold ME.drop; rw [ME.fnd_none hno]
    rw [hu]
    clear hu
    go_enter Try.func16, Try.ntmps16
    go_wp2_with fail
    try rw [hW1]
    go_at_call 27
    refine HFD.out.mono ?_
    rintro x w2 ⟨rfl, hb2⟩
    have HFI := Lib.hid (h1.below hb2)
    have HB2 := Lib.hid hb2
    simp only [optP]
    clear hb2 x0 x1 x2 x3 bx hb hW1 h h1
    go_wp2
    go_ret
    exact ⟨rfl, ⟨L, rfl, HFI.out, ok⟩, FrS.of (bnext HW.out HB2.out)⟩
  · rw [hl] at HFD
    have hnd := ok.keys
    rw [snd_mid] at hnd
    cases hpin : e.pin with
    | true =>
      have hu : ME.drop e.key ((A ++ (b, e) :: C).map Prod.snd) = ((A ++ (b, e) :: C).map Prod.snd, 51) := by
        unfold ME.drop
        rw [snd_mid, ME.fnd_mid hnd]
        simp only
        rw [if_pos hpin]
      rw [hu]
      clear hu
      go_enter Try.func16, Try.ntmps16
      go_wp2_with fail
      try rw [hW1]
      go_at_call 27
      refine HFD.out.mono ?_
      rintro x w2 ⟨rfl, hb2⟩
      have h2 := h1.below hb2
      obtain ⟨-, -, -, -, -, y5⟩ := h2.mem.2.1.parts.1.cells
      rw [hpin] at y5
      have HFI := Lib.hid h2
      have HB2 := Lib.hid hb2
      simp only [optP]
      clear h2 hb2 x0 x1 x2 x3 bx hb hW1 h h1
      go_wp2
      go_ret
      exact ⟨rfl, ⟨_, rfl, HFI.out, ok⟩, FrS.of (bnext HW.out HB2.out)⟩
    | false =>
      have hu : ME.drop e.key ((A ++ (b, e) :: C).map Prod.snd) = ((A ++ C).map Prod.snd, 0) := by
        unfold ME.drop
        rw [snd_mid, ME.fnd_mid hnd]
        simp only
        rw [if_neg (by rw [hpin]; decide), ME.wo_mid hnd]
        simp
      rw [hu]
      clear hu
      go_enter Try.func16, Try.ntmps16
      go_wp2_with fail
      try rw [hW1]
      go_at_call 27
      refine HFD.out.mono ?_
      rintro x w2 ⟨rfl, hb2⟩
      have h2 := h1.below hb2
      obtain ⟨-, -, -, -, -, y5⟩ := h2.mem.2.1.parts.1.cells
      rw [hpin] at y5
      have HRM := Lib.hid (mremove_any w2 M mb root bu A C b e n F h2 ok)
      have HB2 := Lib.hid hb2
      simp only [optP]
      have hok : ME.Ok bu ((A ++ C).map Prod.snd) := by
        have h4 := ok
        rw [snd_mid] at h4
        rw [map_snd_app]
        exact h4.del
      clear h2 hb2 x0 x1 x2 x3 bx hb hW1 h h1
      go_wp2_with fail
      go_at_call 31
      refine HRM.out.mono ?_
      rintro x w3 ⟨rfl, hm3, hf3, -⟩
      go_wp2
      go_ret
      exact ⟨rfl, ⟨_, rfl, hm3, hok⟩, (FrS.of (bnext HW.out HB2.out)).trans hf3⟩
theorem look_pin {A C : List (Nat × En)} {b : Nat} {e : En} (on : Bool) : look (A ++ (b, { e with pin := on }) :: C) = look (A ++ (b, e) :: C) := by
  funext k
  unfold look
  rw [List.find?_append, List.find?_append, List.find?_cons, List.find?_cons]
  have : decide (En.key { e with pin := on } = k) = decide (e.key = k) := rfl
  simp only [this]
  cases List.find? (fun x => decide (x.2.key = k)) A <;> cases decide (e.key = k) <;> rfl
theorem Nd.pin {W : World} {b : Nat} {e : En} {p q : Value} (h : Nd W b e p q) (on : Bool) : Nd (W.setCell ⟨b, 5, none⟩ (.bool on)) b { e with pin := on } p q := heap_setCell_same W b 5 _ _ (.bool on) h
theorem hd_pin {A C : List (Nat × En)} {b c : Nat} {e e' : En} : hd (A ++ (b, e') :: C) c = hd (A ++ (b, e) :: C) c := by cases A <;> rfl
theorem lst_pin {A C : List (Nat × En)} {b c : Nat} {e e' : En} : lst c (A ++ (b, e') :: C) = lst c (A ++ (b, e) :: C) := by rw [lst_app, lst_app]; rfl
theorem Rg.pin {W : World} {root b : Nat} {e : En} {A C : List (Nat × En)} (h : Rg W root (A ++ (b, e) :: C)) (on : Bool) : Rg (W.setCell ⟨b, 5, none⟩ (.bool on)) root (A ++ (b, { e with pin := on }) :: C) := by
  have hn := h.1
  have hm : (A ++ (b, { e with pin := on }) :: C).map Prod.fst = (A ++ (b, e) :: C).map Prod.fst := by simp
  have hn2 := hn
  rw [List.map_append, List.map_cons] at hn2
  obtain ⟨nA, nC, nb⟩ := nd_front hn2
  refine ⟨by rw [hm]; exact hn, ?_, ?_⟩
  · rw [hd_pin (e := e), lst_pin (e := e)]
    exact h.2.1.other nb.symm _
  · have hs := sg_app.1 h.2.2
    refine sg_app.2 ⟨?_, ?_, ?_⟩
    · exact hs.1.keep fun y hy => Below.heap_setCell W ⟨b, 5, none⟩ _ y (nA y hy).2.1
    · exact hs.2.1.pin on
    · exact hs.2.2.keep fun y hy => Below.heap_setCell W ⟨b, 5, none⟩ _ y (nC y hy).2
set_option maxHeartbeats 2000000 in
theorem pin_any (W : World) (M mb root : Nat) (bu : Int) (L : List (Nat × En)) (n : Nat) (F : Nat → Prop) (k : K4) (on : Bool) (hk : K4ok k) (h : MmAt W M mb root bu L n F) (ok : ME.Ok bu (L.map Prod.snd)) :
    Calls Try.prog 15 #[ptr M, kyV k, .bool on] W fun x w' => x = .returned (.int .i64 (ME.pin k on (L.map Prod.snd)).2) ∧ (∃ L', L'.map Prod.snd = (ME.pin k on (L.map Prod.snd)).1 ∧ MmAt w' M mb root bu L' n F ∧ ME.Ok bu (L'.map Prod.snd)) ∧ FrS F W w' := by
  have hb := balloc (Below.refl _ W) (.cells #[.int .i64 k.1, .int .i64 k.2.1, .int .i64 k.2.2.1, .int .i64 k.2.2.2] 34)
  have bx := heap_alloc_new W (.cells #[.int .i64 k.1, .int .i64 k.2.1, .int .i64 k.2.2.1, .int .i64 k.2.2.2] 34)
  obtain ⟨W1, hW1⟩ : ∃ W1, W.alloc (.cells #[.int .i64 k.1, .int .i64 k.2.1, .int .i64 k.2.2.1, .int .i64 k.2.2.2] 34) = W1 := ⟨_, rfl⟩
  rw [hW1] at bx hb
  have h1 := h.below hb
  have HFD := Lib.hid (find_any W1 M mb root bu L n F k hk h1)
  have x0 : W1.cell? ⟨W.heap.size, 0, none⟩ = some (.int .i64 k.1) := nd_cell bx rfl
  have x1 : W1.cell? ⟨W.heap.size, 1, none⟩ = some (.int .i64 k.2.1) := nd_cell bx rfl
  have x2 : W1.cell? ⟨W.heap.size, 2, none⟩ = some (.int .i64 k.2.2.1) := nd_cell bx rfl
  have x3 : W1.cell? ⟨W.heap.size, 3, none⟩ = some (.int .i64 k.2.2.2) := nd_cell bx rfl
  have HW := Lib.hid hb
  rcases look_cases ok k with ⟨hl, hno⟩ | ⟨A, b, e, C, rfl, rfl, hl⟩
  · rw [hl] at HFD
    have hu : ME.pin k on (L.map Prod.snd) = (L.map Prod.snd, 5) := by unfold ME.pin; rw [ME.fnd_none hno]
    rw [hu]
    clear hu
    go_enter Try.func15, Try.ntmps15
    go_wp2_with fail
    try rw [hW1]
    go_at_call 27
    refine HFD.out.mono ?_
    rintro x w2 ⟨rfl, hb2⟩
    have HFI := Lib.hid (h1.below hb2)
    have HB2 := Lib.hid hb2
    simp only [optP]
    clear hb2 x0 x1 x2 x3 bx hb hW1 h h1
    go_wp2
    go_ret
    exact ⟨rfl, ⟨L, rfl, HFI.out, ok⟩, FrS.of (bnext HW.out HB2.out)⟩
  · rw [hl] at HFD
    have hnd := ok.keys
    rw [snd_mid] at hnd
    have hu : ME.pin e.key on ((A ++ (b, e) :: C).map Prod.snd) = ((A ++ (b, { e with pin := on }) :: C).map Prod.snd, 0) := by
      unfold ME.pin
      rw [snd_mid, ME.fnd_mid hnd]
      simp only
      rw [ME.pin_mid hnd, snd_mid]
    rw [hu]
    clear hu
    go_enter Try.func15, Try.ntmps15
    go_wp2_with fail
    try rw [hW1]
    go_at_call 27
    refine HFD.out.mono ?_
    rintro x w2 ⟨rfl, hb2⟩
    have h2 := h1.below hb2
    have HB2 := Lib.hid hb2
    simp only [optP]
    have hpar := h2.mem.2.1.parts.1
    obtain ⟨y0, y1, y2, y3, y4, y5⟩ := hpar.cells
    have hsz := ok.sz
    have hes := hsz e (by simp)
    have hb1 := ok.b1
    have hsum := ok.sum
    have hs0 := ME.sm_nonneg hsz
    have hp0 := ME.pn_le hsz
    have hMb : M ≠ b := h2.mem.1.ne hpar
    have hmb := h2.mem.2.2.1.ne_cells hpar
    have hmM := h2.mem.2.2.1.ne_cells h2.mem.1
    obtain ⟨us, hus⟩ : ∃ us, ME.sm ((A ++ (b, e) :: C).map Prod.snd) = us := ⟨_, rfl⟩
    obtain ⟨pn, hpn⟩ : ∃ pn, ME.pn ((A ++ (b, e) :: C).map Prod.snd) = pn := ⟨_, rfl⟩
    have hm := h2.mem.1
    rw [hus, hpn] at hm
    rw [hus] at hsum hs0 hp0
    rw [hpn] at hp0
    have HC1 := Lib.hid (count_any w2 M root bu us pn (-1) (.map (some mb)) e hm (.inr rfl) hes.1 hes.2 (by omega) (by omega) (by omega) (by omega))
    have hnodes := h2.mem.2.1.node
    have hMne : ∀ y ∈ root :: (A ++ (b, e) :: C).map Prod.fst, M ≠ y := fun y hy => by
      obtain ⟨e', p', q', hn'⟩ := hnodes y hy
      exact h2.mem.1.ne hn'
    have hok : ME.Ok bu ((A ++ (b, { e with pin := on }) :: C).map Prod.snd) := by
      have h4 := ok
      rw [snd_mid] at h4
      rw [snd_mid]
      exact h4.pinned on
    have HOK := Lib.hid hok
    have HUS := Lib.hid hus
    have HPN := Lib.hid hpn
    have H2 := Lib.hid h2
    have HMN := Lib.hid hMne
    have HPA := Lib.hid hpar
    clear hnodes hMne hpar h2 hm hus hpn hok ok hnd hsz hb2 x0 x1 x2 x3 bx hb hW1 h h1 hl
    go_wp2_with fail
    go_at_call 30
    refine HC1.out.mono ?_
    rintro x w3 ⟨rfl, hm3, hf3⟩
    clear y0 y1 y2 y3 y4 y5 HC1
    have hpar3 := HPA.out.kept hf3 (fun z => hMb z.symm)
    have hrg3 := H2.out.mem.2.1.kept hf3 (fun z => HMN.out root (by simp) z.symm) (fun y hy z => HMN.out y (List.mem_cons_of_mem _ hy) z.symm)
    have hom3 := H2.out.mem.2.2.1.same (hf3.block mb H2.out.mem.2.2.1.lt (fun z => hmM z))
    have hfr4 : FrS (fun y => y = b) w3 (w3.setCell ⟨b, 5, none⟩ (.bool on)) := FrS.set (S := fun y => y = b) _ (b := b) rfl _
    have hpar4 := hpar3.pin on
    have hrg4 := hrg3.pin on
    have hom4 := hom3.same (hfr4.block mb hom3.lt (fun z => hmb z))
    have hm4 := hm3.kept hfr4 (fun z => hMb z)
    obtain ⟨us1, hus1⟩ : ∃ us1, us + -1 * e.size = us1 := ⟨_, rfl⟩
    obtain ⟨pn1, hpn1⟩ : ∃ pn1, (if e.pin then pn + -1 * e.size else pn) = pn1 := ⟨_, rfl⟩
    rw [hus1, hpn1] at hm4
    have hpn1b : -1000000000 ≤ pn1 ∧ pn1 ≤ 2000000000 := by rw [← hpn1]; split <;> omega
    have y4' := hpar3.cells.2.2.2.2.1
    have y5' := hpar3.cells.2.2.2.2.2
    have f5 := hpar3.frozen 5
    have HC2 := Lib.hid (count_any (w3.setCell ⟨b, 5, none⟩ (.bool on)) M root bu us1 pn1 1 (.map (some mb)) { e with pin := on } hm4 (.inl rfl) hes.1 hes.2 (by omega) (by omega) (by omega) (by omega))
    have HR4 := Lib.hid hrg4
    have HO4 := Lib.hid hom4
    have HF3 := Lib.hid hf3
    have HF4 := Lib.hid hfr4
    have HU1 := Lib.hid hus1
    have HP1 := Lib.hid hpn1
    obtain ⟨w4, hw4⟩ : ∃ w4, w3.setCell ⟨b, 5, none⟩ (.bool on) = w4 := ⟨_, rfl⟩
    rw [hw4] at HC2 HR4 HO4 HF4 hpar4
    have HP4 := Lib.hid hpar4
    obtain ⟨z0, z1, z2, z3, z4, z5⟩ := hpar4.cells
    simp only at z0 z1 z2 z3 z4 z5
    clear hpar4 hrg4 hom4 hf3 hfr4 hm3 hm4 hpar3 hrg3 hom3 hus1 hpn1
    go_upto_region 6 with fail
    try rw [hw4]
    clear hw4 y4' y5' f5
    go_wp2_with fail
    go_at_call 30
    refine HC2.out.mono ?_
    rintro x w5 ⟨rfl, hm5, hf5⟩
    have hr5 := HR4.out.kept hf5 (fun z => HMN.out root (by simp) z.symm) (fun y hy z => HMN.out y (List.mem_cons_of_mem _ (by simpa using hy)) z.symm)
    have ho5 := HO4.out.same (hf5.block mb HO4.out.lt (fun z => hmM z))
    have HFI : Hid (MmAt w5 M mb root bu (A ++ (b, { e with pin := on }) :: C) n F) := Lib.hid (by
      refine ⟨⟨?_, hr5, by rw [look_pin]; exact ho5, H2.out.mem.2.2.2.1, H2.out.mem.2.2.2.2⟩, H2.out.fM, fun y hy => H2.out.fL y (by simpa using hy), fun y hy => ?_⟩
      · have e1 : us1 + 1 * e.size = ME.sm ((A ++ (b, { e with pin := on }) :: C).map Prod.snd) := by
          have h5 := HUS.out
          rw [snd_mid, ME.sm_app, ME.sm_cons] at h5 ⊢
          have h6 := HU1.out
          dsimp only
          omega
        have e2 : (if on then pn1 + 1 * e.size else pn1) = ME.pn ((A ++ (b, { e with pin := on }) :: C).map Prod.snd) := by
          have h5 := HPN.out
          rw [snd_mid, ME.pn_app, ME.pn_cons] at h5 ⊢
          have h6 := HP1.out
          dsimp only
          cases on <;> cases hp : e.pin <;> simp [hp] at h5 h6 ⊢ <;> omega
        rw [← e1, ← e2]
        exact hm5
      · have := H2.out.lt y hy
        have h6 := HF3.out.size
        have h7 := HF4.out.size
        have h8 := hf5.size
        omega)
    have HFR : Hid (FrS F W w5) := Lib.hid ((((FrS.of (bnext HW.out HB2.out)).trans (HF3.out.mono (fun y hy => by rw [hy]; exact H2.out.fM))).trans (HF4.out.mono (fun y hy => by rw [hy]; exact H2.out.ring))).trans (hf5.mono (fun y hy => by rw [hy]; exact H2.out.fM)))
    clear hm5 hf5 hr5 ho5 z0 z1 z2 z3 z4 z5
    go_wp2
    go_ret
    exact ⟨rfl, ⟨_, rfl, HFI.out, HOK.out⟩, HFR.out⟩
end Go.Proofs.Ytmnajongifdajaa
