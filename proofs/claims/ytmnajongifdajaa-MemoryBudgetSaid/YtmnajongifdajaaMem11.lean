/- A memory gives up a key. No conditions. -/
import Derived.Test.YtmnajongifdajaaMem10
namespace Go.Proofs.Ytmnajongifdajaa
set_option maxRecDepth 100000
set_option linter.unusedVariables false
open Go.RowKit Go.Maps
theorem FrS.remW {S : Nat → Prop} (W : World) {p q : Nat} (hp : S p) (hq : S q) : FrS S W (remW W p q) := (FrS.set W (b := p) hp _).trans (FrS.set _ (b := q) hq _)
theorem map_snd_app {A C : List (Nat × En)} : (A ++ C).map Prod.snd = A.map Prod.snd ++ C.map Prod.snd := List.map_append
theorem keys_of {L : List (Nat × En)} (h : ((L.map Prod.snd).map En.key).Nodup) : (L.map fun x => x.2.key).Nodup := by
  rw [List.map_map] at h
  exact h
set_option maxHeartbeats 4000000 in
theorem mremove_any (W : World) (M mb root : Nat) (bu : Int) (A C : List (Nat × En)) (b : Nat) (e : En) (n : Nat) (F : Nat → Prop) (h : MmAt W M mb root bu (A ++ (b, e) :: C) n F) (ok : ME.Ok bu ((A ++ (b, e) :: C).map Prod.snd)) :
    Calls Try.prog 31 #[ptr M, ptr b] W fun x w' => x = .returned (.tuple #[]) ∧ MmAt w' M mb root bu (A ++ C) n F ∧ FrS F W w' ∧ ∃ p q, Nd w' b e p q := by
  obtain ⟨⟨h1, h2, h3, h4, h5⟩, h6, h7, h8⟩ := h
  have hsz := ok.sz
  have hes := hsz e (by simp)
  have hb1 := ok.b1
  have hsum := ok.sum
  have hs0 := ME.sm_nonneg hsz
  have hp0 := ME.pn_le hsz
  have hkey := ok.ok e (by simp)
  have hnd := keys_of ok.keys
  obtain ⟨us, hus⟩ : ∃ us, ME.sm ((A ++ (b, e) :: C).map Prod.snd) = us := ⟨_, rfl⟩
  obtain ⟨pn, hpn⟩ : ∃ pn, ME.pn ((A ++ (b, e) :: C).map Prod.snd) = pn := ⟨_, rfl⟩
  rw [hus] at h1 hsum hs0 hp0
  rw [hpn] at h1 hp0
  have hus2 : us + -1 * e.size = ME.sm ((A ++ C).map Prod.snd) := by
    rw [← hus, map_snd_app, map_snd_app, List.map_cons, ME.sm_app, ME.sm_app, ME.sm_cons]
    dsimp only
    omega
  have hpn2 : (if e.pin then pn + -1 * e.size else pn) = ME.pn ((A ++ C).map Prod.snd) := by
    rw [← hpn, map_snd_app, map_snd_app, List.map_cons, ME.pn_app, ME.pn_app, ME.pn_cons]
    dsimp only
    cases e.pin <;> simp <;> omega
  obtain ⟨hpar, ⟨ep, pp, hpp⟩, ⟨eq, qq, hqq⟩, hpb, hqb⟩ := h2.parts
  have hbM := h1.ne hpar
  have hMn : ∀ x ∈ root :: (A ++ (b, e) :: C).map Prod.fst, M ≠ x := fun x hx => by
    obtain ⟨e', p', q', hn'⟩ := h2.node x hx
    exact h1.ne hn'
  have hmbM := h3.ne_cells h1
  have hmbn : ∀ x ∈ root :: (A ++ (b, e) :: C).map Prod.fst, mb ≠ x := fun x hx => by
    obtain ⟨e', p', q', hn'⟩ := h2.node x hx
    exact h3.ne_cells hn'
  have hpm : lst root A ∈ root :: (A ++ (b, e) :: C).map Prod.fst := by
    rcases lst_mem root A with h | h
    · rw [h]; simp
    · rw [List.map_append]; exact List.mem_cons_of_mem _ (List.mem_append.2 (.inl h))
  have hqm : hd C root ∈ root :: (A ++ (b, e) :: C).map Prod.fst := by
    rcases hd_mem C root with h | h
    · rw [h]; simp
    · rw [List.map_append, List.map_cons]; exact List.mem_cons_of_mem _ (List.mem_append.2 (.inr (List.mem_cons_of_mem _ h)))
  have hFn : ∀ x ∈ root :: (A ++ (b, e) :: C).map Prod.fst, F x := fun x hx => by
    rcases List.mem_cons.1 hx with rfl | hx
    · exact h5
    · exact h7 x hx
  have HC := Lib.hid (count_any W M root bu us pn (-1) (.map (some mb)) e h1 (.inr rfl) hes.1 hes.2 (by omega) (by omega) (by omega) (by omega))
  rw [hus2, hpn2] at HC
  have cs := hpar.cells
  have mixed : Try.prog.follows .mixedOrders = true := by kernel_rfl
  obtain ⟨p0, hp0'⟩ : ∃ p0, lst root A = p0 := ⟨_, rfl⟩
  obtain ⟨q0, hq0'⟩ : ∃ q0, hd C root = q0 := ⟨_, rfl⟩
  rw [hp0'] at hpar hpp hpb hpm
  rw [hq0'] at hpar hqq hqb hqm
  obtain ⟨us', hus'⟩ : ∃ us', ME.sm ((A ++ C).map Prod.snd) = us' := ⟨_, rfl⟩
  obtain ⟨pn', hpn'⟩ : ∃ pn', ME.pn ((A ++ C).map Prod.snd) = pn' := ⟨_, rfl⟩
  have HP := Lib.hid hp0'
  have HQ := Lib.hid hq0'
  have HU := Lib.hid hus'
  have HN := Lib.hid hpn'
  rw [hus', hpn'] at HC
  have HND := Lib.hid hnd
  have HR := Lib.hid h2
  have HO := Lib.hid h3
  have HF := Lib.hid hFn
  have HM' := Lib.hid hMn
  have HL := Lib.hid h7
  have H8 := Lib.hid h8
  have Hmb := Lib.hid hmbn
  clear hus hpn hus2 hpn2 hus' hpn' hp0' hq0' hnd hsz hes hb1 hsum hs0 hp0 h2 h3 hFn hMn h7 h8 h1 ok hmbn
  obtain ⟨x0, x1, x2, x3, x4, x5⟩ := cs
  go_enter Try.func31, Try.ntmps31
  go_wp2_with fail
  go_at_call 30
  refine HC.out.mono ?_
  rintro x W1 ⟨rfl, hm1, hf1⟩
  clear HC x0 x1 x2 x3 x4 x5
  have n1 := hpar.kept hf1 (fun z => hbM z.symm)
  have n2 := hpp.kept hf1 (fun z => HM'.out p0 hpm z.symm)
  have n3 := hqq.kept hf1 (fun z => HM'.out q0 hqm z.symm)
  have HRM := Lib.hid (remove_any W1 b p0 q0 e ep eq pp qq n1 n2 n3 hpb hqb)
  have hr1 := HR.out.kept hf1 (fun z => HM'.out root (by simp) z.symm) (fun y hy z => HM'.out y (List.mem_cons_of_mem _ hy) z.symm)
  have hr2 := hr1.remove
  rw [HP.out, HQ.out] at hr2
  have hm2 := hm1.kept (S := fun y => y = p0 ∨ y = q0) (FrS.remW W1 (.inl rfl) (.inr rfl)) (fun z => z.elim (fun z => HM'.out p0 hpm z) (fun z => HM'.out q0 hqm z))
  have ho1 := HO.out.same (hf1.block mb HO.out.lt (fun z => hmbM z))
  have ho2 := ho1.same (remW_other (W := W1) (fun z => Hmb.out p0 hpm z) (fun z => Hmb.out q0 hqm z))
  have hn2 : Nd (remW W1 p0 q0) b e (ptr p0) (ptr q0) := (n1.other hpb.symm _).other hqb.symm _
  have hfr2 : FrS F W (remW W1 p0 q0) := (hf1.mono (fun y hy => by rw [hy]; exact h6)).trans (FrS.remW W1 (HF.out p0 hpm) (HF.out q0 hqm))
  obtain ⟨W3, hW3⟩ : ∃ W3, remW W1 p0 q0 = W3 := ⟨_, rfl⟩
  rw [hW3] at HRM hr2 hm2 ho2 hn2 hfr2
  have ho3 : OM W3.drew.drew mb n (look (A ++ (b, e) :: C)) := ho2.same rfl
  obtain ⟨W4, hrun, ho4, ht4⟩ := ho3.del e.key hkey 0
  clear n1 n2 n3 hr1 ho1 hpar hpp hqq hm1 hf1 ho2
  go_wp2_with fail
  go_at_call 28
  refine HRM.out.mono ?_
  rintro x W5 ⟨rfl, rfl⟩
  clear HRM hW3
  obtain ⟨c0, c1, c2, c3, c4⟩ := hm2.cells
  obtain ⟨x0, x1, x2, x3, x4, x5⟩ := hn2.cells
  have hkv : kyV e.key = .agg #[.int .i64 e.f, .int .i64 e.k, .int .i64 e.n, .int .i64 e.r] := rfl
  rw [hkv] at hrun
  go_wp2
  go_region_o
  go_end0
  have hlk : (fun x => if x = e.key then none else look (A ++ (b, e) :: C) x) = look (A ++ C) := funext fun k => (look_del HND.out k).symm
  rw [hlk] at ho4
  have hd3 : FrS F W3 W4 := (FrS.of (A := W3) (B := W3.drew.drew) (Below.drew (Below.drew (Below.refl _ _)))).trans (FrS.turned ht4 h4)
  have hg := ht4.grown
  have hsame : ∀ y, y < W3.heap.size → mb ≠ y → W4.heap[y]? = W3.heap[y]? := fun y hl hy => hg.block y hl (fun z => hy (Option.some.inj z).symm)
  have hrg4 : Rg W4 root (A ++ C) := by
    have hk : ∀ y ∈ root :: (A ++ C).map Prod.fst, mb ≠ y := fun y hy => Hmb.out y (by
      simp only [List.map_append, List.map_cons, List.mem_cons, List.mem_append] at hy ⊢
      rcases hy with h | h | h <;> simp [h])
    exact ⟨hr2.1, (hsame root hr2.2.1.lt (hk root (by simp))).trans hr2.2.1, hr2.2.2.keep fun y hy => hsame y (hr2.2.2.lt y hy) (hk y (List.mem_cons_of_mem _ hy))⟩
  refine ⟨rfl, ⟨⟨?_, hrg4, ho4, h4, h5⟩, h6, fun y hy => HL.out y (by
      simp only [List.map_append, List.map_cons, List.mem_cons, List.mem_append] at hy ⊢
      rcases hy with h | h <;> simp [h]), fun y hy => Nat.lt_of_lt_of_le (H8.out y hy) (hfr2.trans hd3).size⟩, hfr2.trans hd3, ptr p0, ptr q0, (hsame b hn2.lt (Hmb.out b (by simp))).trans hn2⟩
  rw [HU.out, HN.out]
  exact (hsame M hm2.lt (fun z => hmbM z)).trans hm2
end Go.Proofs.Ytmnajongifdajaa
