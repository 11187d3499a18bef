/- What is done with a memory: new, used, use, drop, pin. No conditions. -/
import Derived.Test.YtmnajongifdajaaMem13
namespace Go.Proofs.Ytmnajongifdajaa.ME
set_option linter.unusedVariables false
/-- 'Use': the key becomes the newest one. -/
def use (k : K4) (P : List En) : List En × Bool := match fnd k P with | none => (P, false) | some e => (wo k P ++ [e], true)
def drop (k : K4) (P : List En) : List En × Int := match fnd k P with | none => (P, 5) | some e => if e.pin = true then (P, 51) else (wo k P, 0)
def pinE (k : K4) (on : Bool) (e : En) : En := if e.key = k then { e with pin := on } else e
def pin (k : K4) (on : Bool) (P : List En) : List En × Int := match fnd k P with | none => (P, 5) | some _ => (P.map (pinE k on), 0)
theorem fnd_none {k : K4} {P : List En} (h : ∀ e ∈ P, e.key ≠ k) : fnd k P = none := List.find?_eq_none.2 fun e he => by simpa using h e he
theorem wo_none {k : K4} {P : List En} (h : ∀ e ∈ P, e.key ≠ k) : wo k P = P := List.filter_eq_self.2 fun e he => by simpa using h e he
theorem mid_keys {A C : List En} {e : En} (h : ((A ++ e :: C).map En.key).Nodup) : (∀ x ∈ A, x.key ≠ e.key) ∧ ∀ x ∈ C, x.key ≠ e.key := by
  rw [List.map_append, List.map_cons] at h
  have h0 := List.nodup_append.1 h
  exact ⟨fun x hx => h0.2.2 _ (List.mem_map.2 ⟨x, hx, rfl⟩) e.key (by simp), fun x hx y => (List.nodup_cons.1 h0.2.1).1 (by rw [← y]; exact List.mem_map.2 ⟨x, hx, rfl⟩)⟩
theorem fnd_mid {A C : List En} {e : En} (h : ((A ++ e :: C).map En.key).Nodup) : fnd e.key (A ++ e :: C) = some e := by
  unfold fnd
  rw [List.find?_append, List.find?_eq_none.2 (fun x hx => by simpa using (mid_keys h).1 x hx)]
  simp
theorem wo_mid {A C : List En} {e : En} (h : ((A ++ e :: C).map En.key).Nodup) : wo e.key (A ++ e :: C) = A ++ C := by
  unfold wo
  rw [List.filter_append, List.filter_cons]
  have h1 := wo_none (mid_keys h).1
  have h2 := wo_none (mid_keys h).2
  unfold wo at h1 h2
  rw [h1, h2]
  simp
theorem pin_mid {A C : List En} {e : En} (h : ((A ++ e :: C).map En.key).Nodup) (on : Bool) : (A ++ e :: C).map (pinE e.key on) = A ++ { e with pin := on } :: C := by
  have h1 : ∀ D : List En, (∀ x ∈ D, x.key ≠ e.key) → D.map (pinE e.key on) = D := fun D hD => by
    conv => rhs; rw [← List.map_id D]
    exact List.map_congr_left fun x hx => if_neg (hD x hx)
  rw [List.map_append, List.map_cons, h1 A (mid_keys h).1, h1 C (mid_keys h).2]
  unfold pinE
  rw [if_pos rfl]
theorem Ok.add {bu : Int} {P : List En} {e : En} (h : Ok bu P) (h0 : 0 ≤ e.size ∧ e.size ≤ 65536) (hs : sm P + e.size ≤ bu) (hk : K4ok e.key) (hn : ∀ x ∈ P, x.key ≠ e.key) : Ok bu (P ++ [e]) := by
  refine ⟨h.b0, h.b1, fun x hx => ?_, ?_, ?_, fun x hx => ?_⟩
  · rcases List.mem_append.1 hx with hx | hx
    · exact h.sz x hx
    · obtain rfl := List.mem_singleton.1 hx
      exact h0
  · rw [sm_app, sm_cons]
    simp [sm] at hs ⊢
    omega
  · rw [List.map_append]
    refine List.nodup_append.2 ⟨h.keys, by simp, fun a ha b hb => ?_⟩
    obtain ⟨x, hx, rfl⟩ := List.mem_map.1 ha
    obtain rfl : b = e.key := by simpa using hb
    exact hn x hx
  · rcases List.mem_append.1 hx with hx | hx
    · exact h.ok x hx
    · obtain rfl := List.mem_singleton.1 hx
      exact hk
theorem Ok.pinned {bu : Int} {A C : List En} {e : En} (h : Ok bu (A ++ e :: C)) (on : Bool) : Ok bu (A ++ { e with pin := on } :: C) := by
  refine ⟨h.b0, h.b1, fun x hx => ?_, ?_, ?_, fun x hx => ?_⟩
  · rcases List.mem_append.1 hx with hx | hx
    · exact h.sz x (by simp [hx])
    · rcases List.mem_cons.1 hx with rfl | hx
      · exact h.sz e (by simp)
      · exact h.sz x (by simp [hx])
  · have := h.sum
    rw [sm_app, sm_cons] at this ⊢
    exact this
  · have := h.keys
    rw [List.map_append, List.map_cons] at this ⊢
    exact this
  · rcases List.mem_append.1 hx with hx | hx
    · exact h.ok x (by simp [hx])
    · rcases List.mem_cons.1 hx with rfl | hx
      · exact h.ok e (by simp)
      · exact h.ok x (by simp [hx])
end Go.Proofs.Ytmnajongifdajaa.ME
namespace Go.Proofs.Ytmnajongifdajaa
set_option maxRecDepth 100000
set_option linter.unusedVariables false
open Go.RowKit Go.Maps
theorem snd_mid {A C : List (Nat × En)} {b : Nat} {e : En} : (A ++ (b, e) :: C).map Prod.snd = A.map Prod.snd ++ e :: C.map Prod.snd := by simp
/-- The ways of a look for a key. -/
theorem look_cases {bu : Int} {L : List (Nat × En)} (ok : ME.Ok bu (L.map Prod.snd)) (k : K4) : (look L k = none ∧ (∀ e ∈ L.map Prod.snd, e.key ≠ k)) ∨ ∃ A b e C, L = A ++ (b, e) :: C ∧ e.key = k ∧ look L k = some b := by
  cases h : look L k with
  | none =>
    refine .inl ⟨rfl, fun e he => ?_⟩
    obtain ⟨x, hx, rfl⟩ := List.mem_map.1 he
    exact look_none h x hx
  | some b =>
    obtain ⟨A, e, C, hL, hk⟩ := look_some h
    exact .inr ⟨A, b, e, C, hL, hk, rfl⟩
set_option maxHeartbeats 1000000 in
theorem new_yes (W : World) (bu : Int) (h0 : 0 ≤ bu) (h1 : bu ≤ 1073741824) :
    Calls Try.prog 12 #[.int .i64 bu] W fun x w' => ∃ M mb root, x = .returned (ptr M) ∧ MmAt w' M mb root bu [] 0 (fun b => W.heap.size ≤ b ∧ b < w'.heap.size) ∧ Below W.heap.size W w' := by
  have g0 : ¬ bu < 0 := by omega
  have g1 : ¬ 1073741824 < bu := by omega
  have hmm := @run_makeMap Try.prog
  go_enter Try.func12, Try.ntmps12
  go_wp2_with (go_at_call 26; refine (newring_any _).mono ?_; rintro e w1 ⟨rfl, hn, hb⟩)
  go_ret
  have hm : OM w1 W.heap.size 0 (fun _ => none) := (OM.made W).same (hb.block _ (by simp))
  have hb1 : Below W.heap.size W w1 := bnext (balloc (Below.refl _ _) _) hb
  have hs : W.heap.size + 2 ≤ w1.heap.size := by have := hn.lt; simp at this; omega
  have hbA := balloc (Below.refl w1.heap.size w1) (.cells #[.int .i64 bu, .int .i64 0, .int .i64 0, .map (some W.heap.size), ptr (W.heap.size + 1)] 65)
  rw [World.size_alloc] at hn
  refine ⟨w1.heap.size, W.heap.size, W.heap.size + 1, rfl, ⟨⟨heap_alloc_new w1 _, ?_, hm.same (hbA.block _ (by omega)), ?_, ?_⟩, ?_, fun b hb => by simp at hb, fun b hb => hb.2⟩, balloc hb1 _⟩
  · exact Rg.new ((hbA.block _ hn.lt).trans hn)
  · simp; omega
  · have := hn.lt
    simp at this ⊢
    omega
  · simp; omega
set_option maxHeartbeats 1000000 in
theorem new_no (W : World) (bu : Int) (h : bu < 0 ∨ 1073741824 < bu) :
    Calls Try.prog 12 #[.int .i64 bu] W fun x w' => x = .returned (.pointer none) ∧ w' = W := by
  by_cases g0 : bu < 0
  · go_enter Try.func12, Try.ntmps12
    go_wp2
    go_ret
    exact ⟨rfl, rfl⟩
  · have g1 : 1073741824 < bu := by omega
    go_enter Try.func12, Try.ntmps12
    go_wp2
    go_ret
    exact ⟨rfl, rfl⟩
set_option maxHeartbeats 1000000 in
theorem used_any (W : World) (M mb root : Nat) (bu : Int) (L : List (Nat × En)) (n : Nat) (F : Nat → Prop) (h : MmAt W M mb root bu L n F) :
    Calls Try.prog 19 #[ptr M] W fun x w' => x = .returned (.int .i64 (ME.sm (L.map Prod.snd))) ∧ w' = W := by
  have hm := h.mem.1
  have HZ := iszero_some W M bu _ _ mb root hm
  obtain ⟨us, hus⟩ : ∃ us, ME.sm (L.map Prod.snd) = us := ⟨_, rfl⟩
  obtain ⟨pn, hpn⟩ : ∃ pn, ME.pn (L.map Prod.snd) = pn := ⟨_, rfl⟩
  rw [hus] at hm ⊢
  rw [hpn] at hm
  obtain ⟨c0, c1, c2, c3, c4⟩ := hm.cells
  have HZ' := Lib.hid HZ
  clear h hm HZ hus hpn
  go_enter Try.func19, Try.ntmps19
  go_wp2_with (go_at_call 32; refine HZ'.out.mono ?_; rintro e w' ⟨rfl, rfl⟩)
  go_ret
  exact ⟨rfl, rfl⟩
theorem eqlp_none (W : World) : (binOp .eql 63 (.pointer none) (.pointer none)).run Try.prog W = .ok (.bool true) W := by kernel_rfl
theorem MmAt.ring {W : World} {M mb root : Nat} {bu : Int} {A C : List (Nat × En)} {b : Nat} {e : En} {n : Nat} {F : Nat → Prop} (h : MmAt W M mb root bu (A ++ (b, e) :: C) n F) : F b := h.fL b (by simp)
set_option maxHeartbeats 2000000 in
theorem use_any (W : World) (M mb root : Nat) (bu : Int) (L : List (Nat × En)) (n : Nat) (F : Nat → Prop) (k : K4) (hk : K4ok k) (h : MmAt W M mb root bu L n F) (ok : ME.Ok bu (L.map Prod.snd)) :
    Calls Try.prog 14 #[ptr M, kyV k] W fun x w' => x = .returned (.bool (ME.use k (L.map Prod.snd)).2) ∧ (∃ L', L'.map Prod.snd = (ME.use k (L.map Prod.snd)).1 ∧ MmAt w' M mb root bu L' n F ∧ ME.Ok bu (L'.map Prod.snd)) ∧ FrS F W w' := by
  have hb := balloc (Below.refl _ W) (.cells #[.int .i64 k.1, .int .i64 k.2.1, .int .i64 k.2.2.1, .int .i64 k.2.2.2] 34)
  have bx := heap_alloc_new W (.cells #[.int .i64 k.1, .int .i64 k.2.1, .int .i64 k.2.2.1, .int .i64 k.2.2.2] 34)
  obtain ⟨W1, hW1⟩ : ∃ W1, W.alloc (.cells #[.int .i64 k.1, .int .i64 k.2.1, .int .i64 k.2.2.1, .int .i64 k.2.2.2] 34) = W1 := ⟨_, rfl⟩
  rw [hW1] at bx hb
  have h1 := h.below hb
  have HFD := Lib.hid (find_any W1 M mb root bu L n F k hk h1)
  have x0 : W1.cell? ⟨W.heap.size, 0, none⟩ = some (.int .i64 k.1) := nd_cell bx rfl
  have x1 : W1.cell? ⟨W.heap.size, 1, none⟩ = some (.int .i64 k.2.1) := nd_cell bx rfl
  have x2 : W1.cell? ⟨W.heap.size, 2, none⟩ = some (.int .i64 k.2.2.1) := nd_cell bx rfl
  have x3 : W1.cell? ⟨W.heap.size, 3, none⟩ = some (.int .i64 k.2.2.2) := nd_cell bx rfl
  have HW := Lib.hid hb
  rcases look_cases ok k with ⟨hl, hno⟩ | ⟨A, b, e, C, rfl, rfl, hl⟩
  · rw [hl] at HFD
    have hu : ME.use k (L.map Prod.snd) = (L.map Prod.snd, false) := by unfold ME.use; rw [ME.fnd_none hno]
    rw [hu]
    clear hu
    go_enter Try.func14, Try.ntmps14
    go_wp2_with fail
    try rw [hW1]
    go_at_call 27
    refine HFD.out.mono ?_
    rintro x w2 ⟨rfl, hb2⟩
    have hfin : MmAt w2 M mb root bu L n F := h1.below hb2
    have HFI := Lib.hid hfin
    have HB2 := Lib.hid hb2
    simp only [optP]
    clear hfin hb2 x0 x1 x2 x3 bx hb hW1 h h1
    go_wp2
    go_ret
    exact ⟨rfl, ⟨L, rfl, HFI.out, ok⟩, FrS.of (bnext HW.out HB2.out)⟩
  · rw [hl] at HFD
    have hnd := ok.keys
    rw [snd_mid] at hnd
    have hu : ME.use e.key ((A ++ (b, e) :: C).map Prod.snd) = (((A ++ C) ++ [(b, e)]).map Prod.snd, true) := by
      unfold ME.use
      rw [snd_mid, ME.fnd_mid hnd, ME.wo_mid hnd]
      simp
    rw [hu]
    go_enter Try.func14, Try.ntmps14
    go_wp2_with fail
    try rw [hW1]
    go_at_call 27
    refine HFD.out.mono ?_
    rintro x w2 ⟨rfl, hb2⟩
    have h2 := h1.below hb2
    have HB2 := Lib.hid hb2
    simp only [optP]
    obtain ⟨hpar, ⟨ep, pp, hpp⟩, ⟨eq, qq, hqq⟩, hpb, hqb⟩ := h2.mem.2.1.parts
    have HRM := Lib.hid (remove_any w2 b _ _ e ep eq pp qq hpar hpp hqq hpb hqb)
    have hrg := h2.mem.2.1.remove
    have hbr : b ∉ root :: (A ++ C).map Prod.fst := by
      have := h2.mem.2.1.1
      rw [List.map_append, List.map_cons] at this
      obtain ⟨nA, nC, nb⟩ := nd_front this
      intro hm
      rcases List.mem_cons.1 hm with hm | hm
      · exact nb hm
      · rw [List.map_append] at hm
        rcases List.mem_append.1 hm with hm | hm
        · exact (nA b hm).2.1 rfl
        · exact (nC b hm).2 rfl
    have hnb : Nd (remW w2 (lst root A) (hd C root)) b e (ptr (lst root A)) (ptr (hd C root)) := (hpar.other hpb.symm _).other hqb.symm _
    have hFp : F (lst root A) := by
      rcases lst_mem root A with h | h
      · rw [h]; exact h2.mem.2.2.2.2
      · exact h2.fL _ (by simp only [List.map_append]; exact List.mem_append.2 (.inl h))
    have hFq : F (hd C root) := by
      rcases hd_mem C root with h | h
      · rw [h]; exact h2.mem.2.2.2.2
      · exact h2.fL _ (by simp only [List.map_append, List.map_cons]; exact List.mem_append.2 (.inr (List.mem_cons_of_mem _ h)))
    obtain ⟨p0, hp0⟩ : ∃ p0, lst root A = p0 := ⟨_, rfl⟩
    obtain ⟨q0, hq0⟩ : ∃ q0, hd C root = q0 := ⟨_, rfl⟩
    rw [hp0, hq0] at HRM hrg hnb
    rw [hp0] at hFp
    rw [hq0] at hFq
    have hnodes := h2.mem.2.1.node
    have hMne : ∀ y, (∃ e p q, Nd w2 y e p q) → M ≠ y := fun y ⟨e', p', q', hn'⟩ => h2.mem.1.ne hn'
    have hbne : ∀ y, (∃ e p q, Nd w2 y e p q) → mb ≠ y := fun y ⟨e', p', q', hn'⟩ => h2.mem.2.2.1.ne_cells hn'
    rw [hp0] at hpp
    rw [hq0] at hqq
    obtain ⟨W3, hW3⟩ : ∃ W3, (remW w2 p0 q0).drew = W3 := ⟨_, rfl⟩
    rw [hW3] at HRM
    have hrg3 : Rg W3 root (A ++ C) := by rw [← hW3]; exact hrg.kept (S := fun _ => False) (FrS.drew _) (fun x => x) (fun _ _ x => x)
    have hnb3 : Nd W3 b e (ptr p0) (ptr q0) := by rw [← hW3]; exact hnb
    have hfr3 : FrS (fun y => y = p0 ∨ y = q0) w2 W3 := by rw [← hW3]; exact (FrS.remW w2 (.inl rfl) (.inr rfl)).trans (FrS.drew _)
    have hM3 := h2.mem.1.kept hfr3 (fun z => z.elim (fun z => hMne p0 ⟨_, _, _, hpp⟩ z) (fun z => hMne q0 ⟨_, _, _, hqq⟩ z))
    have hO3 := h2.mem.2.2.1.same (hfr3.block mb h2.mem.2.2.1.lt (fun z => z.elim (fun z => hbne p0 ⟨_, _, _, hpp⟩ z) (fun z => hbne q0 ⟨_, _, _, hqq⟩ z)))
    have hl0 : ∃ el pl, Nd W3 (lst root (A ++ C)) el pl (ptr root) ∧ lst root (A ++ C) ≠ b := by
      rcases List.eq_nil_or_concat (A ++ C) with h | ⟨D, x, hD⟩
      · rw [h] at hrg3 ⊢
        exact ⟨_, _, hrg3.2.1, fun z => hbr (by show b ∈ root :: _; rw [show b = root from z.symm]; simp)⟩
      · rw [List.concat_eq_append] at hD
        rw [hD] at hrg3 hbr ⊢
        rw [show lst root (D ++ [x]) = x.1 by rw [lst_app]; rfl]
        exact ⟨_, _, hrg3.2.2.last, fun z => hbr (by rw [← z]; simp)⟩
    obtain ⟨el, pl, hnl, hlb⟩ := hl0
    have hadd := hrg3.add hnb3 hbr
    have HAD := Lib.hid (add_any W3 root b (lst root (A ++ C)) _ e el _ _ _ _ _ hrg3.2.1 hnb3 hnl (fun z => hbr (by rw [z]; simp)) hlb.symm)
    obtain ⟨c0, c1, c2, c3, c4⟩ := hM3.cells
    have HB := Lib.hid hfr3
    have hFl : F (lst root (A ++ C)) := by
      rcases lst_mem root (A ++ C) with h | h
      · rw [h]; exact h2.mem.2.2.2.2
      · refine h2.fL _ ?_
        simp only [List.map_append, List.map_cons, List.mem_append, List.mem_cons] at h ⊢
        rcases h with h | h <;> simp [h]
    have hfin : MmAt (addW W3 root b (lst root (A ++ C))) M mb root bu ((A ++ C) ++ [(b, e)]) n F := by
      have hs2 : ((A ++ C) ++ [(b, e)]).map Prod.snd = A.map Prod.snd ++ C.map Prod.snd ++ [e] := by simp
      have hMl := hMne (lst root (A ++ C)) (by
        rcases lst_mem root (A ++ C) with h | h
        · rw [h]; exact hnodes root (by simp)
        · refine hnodes _ (List.mem_cons_of_mem _ ?_)
          simp only [List.map_append, List.map_cons, List.mem_append, List.mem_cons] at h ⊢
          rcases h with h | h <;> simp [h])
      have hml := hbne (lst root (A ++ C)) (by
        rcases lst_mem root (A ++ C) with h | h
        · rw [h]; exact hnodes root (by simp)
        · refine hnodes _ (List.mem_cons_of_mem _ ?_)
          simp only [List.map_append, List.map_cons, List.mem_append, List.mem_cons] at h ⊢
          rcases h with h | h <;> simp [h])
      have hMr := hMne root (hnodes root (by simp))
      have hMb := hMne b (hnodes b (by simp))
      have hmr := hbne root (hnodes root (by simp))
      have hmb := hbne b (hnodes b (by simp))
      refine ⟨⟨?_, hadd, ?_, h2.mem.2.2.2.1, h2.mem.2.2.2.2⟩, h2.fM, fun y hy => ?_, fun y hy => ?_⟩
      · have e1 : ME.sm (((A ++ C) ++ [(b, e)]).map Prod.snd) = ME.sm ((A ++ (b, e) :: C).map Prod.snd) := by
          rw [hs2, snd_mid, ME.sm_app, ME.sm_app, ME.sm_app, ME.sm_cons, ME.sm_cons]
          simp [ME.sm]
          omega
        have e2 : ME.pn (((A ++ C) ++ [(b, e)]).map Prod.snd) = ME.pn ((A ++ (b, e) :: C).map Prod.snd) := by
          rw [hs2, snd_mid, ME.pn_app, ME.pn_app, ME.pn_app, ME.pn_cons, ME.pn_cons]
          simp [ME.pn]
          omega
        rw [e1, e2]
        exact (addW_other hMr hMb hMl).trans hM3
      · have e3 : look ((A ++ C) ++ [(b, e)]) = look (A ++ (b, e) :: C) := funext fun y => by
          have hdl := look_del (keys_of ok.keys)
          rw [look_app (by rw [hdl, if_pos rfl]), hdl]
          by_cases hy : y = e.key
          · rw [if_pos hy, hy, hl]
          · rw [if_neg hy, if_neg hy]
        rw [e3]
        exact hO3.same (addW_other hmr hmb hml)
      · refine h2.fL y ?_
        simp only [List.map_append, List.map_cons, List.map_nil, List.mem_append, List.mem_cons, List.not_mem_nil, or_false] at hy ⊢
        rcases hy with (hy | hy) | hy <;> simp [hy]
      · have := h2.lt y hy
        have h3 := hfr3.size
        simp only [addW, World.size_setCell]
        omega
    have hfrA : FrS F W3 (addW W3 root b (lst root (A ++ C))) := by
      unfold addW
      exact ((((FrS.set (S := F) _ (b := b) h2.ring _).trans (FrS.set (S := F) _ (b := b) h2.ring _)).trans (FrS.set (S := F) _ (b := lst root (A ++ C)) hFl _)).trans (FrS.set (S := F) _ (b := root) h2.mem.2.2.2.2 _))
    have hok : ME.Ok bu (((A ++ C) ++ [(b, e)]).map Prod.snd) := by
      have h4 := ok
      rw [snd_mid] at h4
      have h5 := h4.del
      rw [List.map_append, List.map_append]
      refine h5.add (h4.sz e (by simp)) ?_ (h4.ok e (by simp)) (fun x hx => ?_)
      · have := h4.sum
        rw [ME.sm_app, ME.sm_cons] at this
        rw [ME.sm_app]
        dsimp only
        omega
      · rcases List.mem_append.1 hx with hx | hx
        · exact (ME.mid_keys hnd).1 x hx
        · exact (ME.mid_keys hnd).2 x hx
    have HFI := Lib.hid hfin
    have HFA := Lib.hid hfrA
    have HOK := Lib.hid hok
    have HF3 := Lib.hid (hfr3.mono (T := F) (fun y hy => hy.elim (fun z => by rw [z]; exact hFp) (fun z => by rw [z]; exact hFq)))
    clear hfin hfrA hok hadd hnl hnb3 hrg3 hM3 hO3 hfr3 hpar hpp hqq h2 hrg hnb hnodes hMne hbne hbr hu hnd ok x0 x1 x2 x3 bx hb hW1 h h1 hb2
    go_wp2_with fail
    go_at_call 28
    refine HRM.out.mono ?_
    rintro x W4 ⟨rfl, rfl⟩
    go_wp2_with fail
    go_at_call 29
    refine HAD.out.mono ?_
    rintro x W5 ⟨rfl, rfl⟩
    go_wp2
    go_ret
    exact ⟨rfl, ⟨_, rfl, HFI.out, HOK.out⟩, ((FrS.of (bnext HW.out HB2.out)).trans HF3.out).trans HFA.out⟩
end Go.Proofs.Ytmnajongifdajaa
