/- Texts merged: Marks, SgnPick. No conditions. -/
import Derived.Test.YtinkhgmdeldniaaApp
import Derived.RangeFuncNested
import Derived.RangeFuncBound
import Derived.RangeFuncCalls
import Derived.RangeFuncLeaves
import Derived.Test.YtinkhgmdeldniaaSgnIter
/- A function that ranges over functions again and again leaves with many marks. No conditions. -/
section
namespace Go.Proofs.Ytinkhgmdeldniaa
set_option maxRecDepth 100000
set_option linter.unusedVariables false
open Go.RowKit
/-- The mark that a range over a function leaves. -/
def mark (r : Nat) : Deferred := { target := .collected r, args := #[] }
/-- The marks lie in blocks of their own, at or beyond B. -/
def Marks (B : Nat) (rs : List Nat) (w : World) : Prop := rs.Nodup ∧ ∀ r ∈ rs, B ≤ r ∧ w.heap[r]? = some (.deferred (some []))
theorem Marks.nil (B : Nat) (w : World) : Marks B [] w := ⟨List.nodup_nil, fun r h => by cases h⟩
theorem Marks.lt {B : Nat} {rs : List Nat} {w : World} (h : Marks B rs w) : ∀ r ∈ rs, r < w.heap.size := fun r hr => (Array.getElem?_eq_some_iff.1 (h.2 r hr).2).1
theorem Marks.cons {B D : Nat} {rs : List Nat} {w : World} (h : Marks B rs w) (hn : D ∉ rs) (hB : B ≤ D) (hD : w.heap[D]? = some (.deferred (some []))) : Marks B (D :: rs) w :=
  ⟨List.nodup_cons.2 ⟨hn, h.1⟩, fun r hr => by
    rcases List.mem_cons.1 hr with rfl | hr
    · exact ⟨hB, hD⟩
    · exact h.2 r hr⟩
theorem Marks.below {B : Nat} {rs : List Nat} {w w' : World} (h : Marks B rs w) (hb : Below w.heap.size w w') : Marks B rs w' :=
  ⟨h.1, fun r hr => ⟨(h.2 r hr).1, (hb.block r (h.lt r hr)).trans (h.2 r hr).2⟩⟩
/-- A turn of cells, or of what lies at or beyond C, which all marks lie below. -/
theorem Marks.grown {B : Nat} {rs : List Nat} {w w' : World} {row : Option Nat} (h : Marks B rs w) (hg : w.grownBy w' row) (hr : ∀ r, row = some r → r ∉ rs) : Marks B rs w' :=
  ⟨h.1, fun r hm => ⟨(h.2 r hm).1, (hg.block r (h.lt r hm) (fun e => hr r e.symm hm)).trans (h.2 r hm).2⟩⟩
theorem Marks.cells {B : Nat} {rs : List Nat} {w : World} (h : Marks B rs w) {b : Nat} {cs : Array Value} {t : TypeId} {fr : Nat × Nat} (hb : w.heap[b]? = some (.cells cs t fr)) : b ∉ rs := fun hm => by
  have := (h.2 b hm).2
  rw [hb] at this
  cases this
theorem leaves_marks {F : Fence} {n : Nat} {P : Program} {fn : Func} {tmps : Array Value} {R : Ending → World → Prop} {B : Nat} : ∀ (rs : List Nat) (w : World), Marks B rs w → B ≤ w.heap.size →
    (∀ w', Below B w w' → (∀ (b : Nat) (cs : Array Value) (t : TypeId) (fr : Nat × Nat), w.heap[b]? = some (Obj.cells cs t fr) → w'.heap[b]? = some (Obj.cells cs t fr)) → LeavesIn F n P fn tmps R [] .returning w') → LeavesInM F n P fn tmps R (rs.map mark) .returning w
  | [], w, _, _, h => h w (Below.refl _ _) (fun _ _ _ _ h => h)
  | r :: rs, w, hm, hB, h => by
    have hr := hm.2 r (List.mem_cons_self ..)
    have hn := List.nodup_cons.1 hm.1
    have hb : Below B w (w.putObj r (.deferred none)) := (Below.refl B w).grown (grownBy_putObj' w r _) hB (fun k e => by cases e; exact hr.1)
    refine ⟨by simp, .inl ⟨r, _, rfl, run_takeDeferred hr.2, ?_⟩⟩
    refine leaves_marks rs _ ⟨hn.2, fun k hk => ⟨(hm.2 k (List.mem_cons_of_mem _ hk)).1, ?_⟩⟩ (by simpa using hB) (fun w' hw hc => h w' (hb.trans hw) (fun b cs t fr hbc => hc b cs t fr ((World.putObj_heap_other (fun e => ?_)).trans hbc)))
    · exact (World.putObj_heap_other (fun e => hn.1 (by rw [← e]; exact hk))).trans (hm.2 k (List.mem_cons_of_mem _ hk)).2
    · subst e
      have := hr.2
      rw [hbc] at this
      cases this
end Go.Proofs.Ytinkhgmdeldniaa
end
/- choose: the links with the numbers that are wanted. No conditions. -/
section
namespace Go.Proofs.Ytinkhgmdeldniaa.SG
set_option maxRecDepth 100000
open Go.RowKit
/-- The links of the first k chains whose numbers are those of D. -/
def pick (seed : ByteArray) (i : Int) (D : Nat → Nat) (k : Nat) : List ByteArray := (List.range k).map fun (c : Nat) => link seed i (c : Int) (D c)
theorem pick_succ (seed : ByteArray) (i : Int) (D : Nat → Nat) (k : Nat) : pick seed i D (k + 1) = pick seed i D k ++ [link seed i (k : Int) (D k)] := by unfold pick; rw [List.range_succ, List.map_append]; rfl
theorem pick_len (seed : ByteArray) (i : Int) (D : Nat → Nat) (k : Nat) : (pick seed i D k).length = k := by simp [pick]
theorem lns_pick (seed : ByteArray) (i : Int) (msg : ByteArray) (k : Nat) : lns seed i msg k = pick seed i (dig msg) k := rfl
/-- The numbers, as an array. -/
def numA (D : Nat → Nat) : Array Value := ((List.range 18).map fun c => Value.int .i64 (D c : Int)).toArray
theorem numA_at (D : Nat → Nat) {c : Nat} (h : c < 18) : (numA D)[c]? = some (.int .i64 (D c : Int)) := by
  unfold numA
  simp [h]
/-- What lies in the list when k links are chosen. -/
def part (seed : ByteArray) (i : Int) (D : Nat → Nat) (k : Nat) : Array Value := ((pick seed i D k).map Value.string ++ List.replicate (18 - k) (Value.string ⟨#[]⟩)).toArray
theorem part_size (seed : ByteArray) (i : Int) (D : Nat → Nat) {k : Nat} (h : k ≤ 18) : (part seed i D k).size = 18 := by
  simp [part, pick_len]
  omega
theorem part_next (seed : ByteArray) (i : Int) (D : Nat → Nat) {k : Nat} (h : k < 18) : (part seed i D k).setIfInBounds k (.string (link seed i (k : Int) (D k))) = part seed i D (k + 1) := by
  obtain ⟨m, hm⟩ : ∃ m, 18 - k = m + 1 := ⟨17 - k, by omega⟩
  have hm2 : 18 - (k + 1) = m := by omega
  unfold part
  rw [hm, hm2, pick_succ, List.setIfInBounds_toArray, List.replicate_succ]
  have hl : ((pick seed i D k).map Value.string).length = k := by rw [List.length_map, pick_len]
  rw [List.set_append_right _ _ (by omega), hl, Nat.sub_self, List.set_cons_zero]
  simp
end Go.Proofs.Ytinkhgmdeldniaa.SG
namespace Go.Proofs.Ytinkhgmdeldniaa
set_option maxRecDepth 100000
set_option linter.unusedVariables false
open Go.RowKit Go.Shelf Go.Deep
attribute [local go_sem] Oper.semAt_some
/-- What the memory holds when c links are chosen. -/
def ChSt (seed : ByteArray) (i : Int) (D : Nat → Nat) (B c : Nat) (rs : List Nat) (w W : World) : Prop :=
  W.heap[B]? = some (.cells (SG.numA D) 61 (0, 0)) ∧ W.heap[B + 1]? = some (.cells (SG.part seed i D c) 9 (0, 0)) ∧ Boxed W (B + 2) 42 (.slice (some ⟨B + 1, 0, none⟩) 18 18) ∧ Marks B rs W ∧ Below B w W ∧ B ≤ w.heap.size
theorem make_texts (V : World) : (Instr.makeSlice 42 (.int .i64 18) (.int .i64 18)).run Try.prog V = .ok (.slice (some ⟨V.heap.size, 0, none⟩) 18 18) (V.alloc (.cells (SG.part ⟨#[]⟩ 0 (fun _ => 0) 0) 9)) := by
  obtain ⟨i0, hi, hz0, hz1, hz2⟩ := info_parts info_string
  have h := run_make (P := Try.prog) V 42 9 i0 (.string ⟨#[]⟩) Try.underlying42 hi hz0 .i64 .i64 18 18 (by omega) (by omega) (by rw [hz2]; omega) (by omega)
  rw [hz1] at h
  have e : madeCells (Value.string ⟨#[]⟩).cells (Int.toNat 18 * 1) = SG.part ⟨#[]⟩ 0 (fun _ => 0) 0 := by
    apply Array.ext'
    rw [show (Value.string ⟨#[]⟩).cells = #[.string ⟨#[]⟩] from rfl, toList_madeCells_one]
    rfl
  rw [e] at h
  exact h
theorem part_zero (seed : ByteArray) (i : Int) (D : Nat → Nat) : SG.part ⟨#[]⟩ 0 (fun _ => 0) 0 = SG.part seed i D 0 := rfl
set_option maxHeartbeats 4000000 in
theorem choose_in (n : Nat) (hn : 4 ≤ n) (seed : ByteArray) (i : Int) (D : Nat → Nat) (w : World) (hs : seed.size ≤ 1000000) (hi : -1000000 ≤ i ∧ i ≤ 1000000) (hD : ∀ c, c < 18 → D c ≤ 15) :
    CallsIn Fence.wide n Try.prog 38 #[.func (.func 39) #[.agg #[.string seed, .int .i64 i]] #[], .agg (SG.numA D)] w fun e w' => ∃ v, e = .returned v ∧ w'.ownsRow w.heap.size 9 1 v 18 ((SG.pick seed i D 18).map Value.string) ∧ Below w.heap.size w w' := by
  have h1 : 1 ≤ n := by omega
  refine callsIn_of_wp_marks Try.func38 rfl trivial ?_ rfl
  simp only [Try.ntmps38, List.size_toArray, List.length_cons, List.length_nil, Nat.reduceAdd, Nat.reduceSub, Array.replicate_succ, Array.replicate_zero, List.push_toArray, List.append_toArray, List.nil_append, List.cons_append]
  have hmk := make_texts
  gi_wp2
  obtain ⟨B, hB⟩ : ∃ B, w.heap.size = B := ⟨_, rfl⟩
  have hst : ChSt seed i D B 0 [] w (((w.alloc (.cells (SG.numA D) 61)).alloc (.cells (SG.part ⟨#[]⟩ 0 (fun _ => 0) 0) 9)).alloc (.cells #[.slice (some ⟨w.heap.size + 1, 0, none⟩) 18 18] 42)) := by
    have a1 := World.alloc_heap_new w (.cells (SG.numA D) 61)
    have a2 := World.alloc_heap_new (w.alloc (.cells (SG.numA D) 61)) (.cells (SG.part ⟨#[]⟩ 0 (fun _ => 0) 0) 9)
    have a3 := World.alloc_heap_new ((w.alloc (.cells (SG.numA D) 61)).alloc (.cells (SG.part ⟨#[]⟩ 0 (fun _ => 0) 0) 9)) (.cells #[.slice (some ⟨w.heap.size + 1, 0, none⟩) 18 18] 42)
    simp only [World.size_alloc, hB] at a1 a2 a3 ⊢
    refine ⟨?_, ?_, a3, Marks.nil _ _, (((Below.refl _ w).alloc (by omega) _).alloc (by simp; omega) _).alloc (by simp; omega) _, by omega⟩
    · rw [Below.heap_alloc _ _ _ (by simp; omega), Below.heap_alloc _ _ _ (by simp; omega)]
      exact a1
    · rw [Below.heap_alloc _ _ _ (by simp; omega)]
      exact a2
  generalize (((w.alloc (.cells (SG.numA D) 61)).alloc (.cells (SG.part ⟨#[]⟩ 0 (fun _ => 0) 0) 9)).alloc (.cells #[.slice (some ⟨w.heap.size + 1, 0, none⟩) 18 18] 42)) = W0 at hst ⊢
  have HB := Lib.hid hB
  rw [hB]
  clear hmk hB
  refine wpIn_loop (fun a W => ∃ (c : Nat) (rs : List Nat) (u6 u7 u8 u13 u14 u15 u16 u17 u18 u19 u20 u21 u22 u23 u24 u25 u26 u27 u28 u29 : Value), a = { tmps := #[.func (.func 39) #[.agg #[.string seed, .int .i64 i]] #[], .agg (SG.numA D), undef, .pointer (some ⟨B, 0, none⟩), .slice none 0 0, .pointer (some ⟨B + 2, 0, none⟩), u6, u7, u8, .slice (some ⟨B + 1, 0, none⟩) 18 18, .slice (some ⟨B + 1, 0, none⟩) 18 18, .int .i64 18, .int .i64 (c : Int), u13, u14, u15, u16, u17, u18, u19, u20, u21, u22, u23, u24, u25, u26, u27, u28, u29, undef], defers := rs.map mark } ∧ c ≤ 18 ∧ ChSt seed i D B c rs w W) (fun a _ => 18 - (intOf (a.tmps.getD 12 undef)).toNat) ⟨0, [], _, _, _, _, _, _, _, _, _, _, _, _, _, _, _, _, _, _, _, _, rfl, by omega, hst⟩ ?_
  clear hst
  rintro a W ⟨c, rs, u6, u7, u8, u13, u14, u15, u16, u17, u18, u19, u20, u21, u22, u23, u24, u25, u26, u27, u28, u29, rfl, hc, hst⟩
  obtain ⟨s0, s1, s2, sm, sb, sB⟩ := hst
  have s2lt := s2.lt
  by_cases hc18 : c < 18
  · have hci : (c : Int) < 18 := by omega
    have hDc := hD c hc18
    gi_wp2_with (refine ⟨trivial, ?_⟩; gi_at_call 39; refine (callsIn_wide.2 (klinks_any seed i c _)).mono ?_; rintro e w' ⟨rfl, rfl⟩)
    obtain ⟨P, hP⟩ : ∃ P, W.heap.size = P := ⟨_, rfl⟩
    have b0 : Boxed (((W.alloc (.cells #[.int .i64 (c : Int)] 3)).alloc (.cells #[.string seed, .int .i64 i] 60)).alloc (.cells #[.int .i64 (c : Int)] 3)) P 3 (.int .i64 (c : Int)) := by rw [← hP]; exact ((Boxed.new W _ _).alloc _).alloc _
    have b1 : (((W.alloc (.cells #[.int .i64 (c : Int)] 3)).alloc (.cells #[.string seed, .int .i64 i] 60)).alloc (.cells #[.int .i64 (c : Int)] 3)).heap[P + 1]? = some (.cells #[.string seed, .int .i64 i] 60 (0, 0)) := by
      have := World.alloc_heap_new (W.alloc (.cells #[.int .i64 (c : Int)] 3)) (.cells #[.string seed, .int .i64 i] 60)
      simp only [World.size_alloc, hP] at this
      rw [Below.heap_alloc _ _ _ (by simp; omega)]
      exact this
    have b2 : Boxed (((W.alloc (.cells #[.int .i64 (c : Int)] 3)).alloc (.cells #[.string seed, .int .i64 i] 60)).alloc (.cells #[.int .i64 (c : Int)] 3)) (P + 2) 3 (.int .i64 (c : Int)) := by
      have := Boxed.new ((W.alloc (.cells #[.int .i64 (c : Int)] 3)).alloc (.cells #[.string seed, .int .i64 i] 60)) 3 (.int .i64 (c : Int))
      simp only [World.size_alloc, hP] at this
      exact this
    have hbW : Below W.heap.size W (((W.alloc (.cells #[.int .i64 (c : Int)] 3)).alloc (.cells #[.string seed, .int .i64 i] 60)).alloc (.cells #[.int .i64 (c : Int)] 3)) := (((Below.refl _ W).alloc (Nat.le_refl _) _).alloc (by simp) _).alloc (by simp; omega) _
    have hsz : (((W.alloc (.cells #[.int .i64 (c : Int)] 3)).alloc (.cells #[.string seed, .int .i64 i] 60)).alloc (.cells #[.int .i64 (c : Int)] 3)).heap.size = P + 3 := by simp; omega
    simp only [World.size_alloc, hP]
    rw [show P + 1 + 1 = P + 2 from rfl]
    generalize (((W.alloc (.cells #[.int .i64 (c : Int)] 3)).alloc (.cells #[.string seed, .int .i64 i] 60)).alloc (.cells #[.int .i64 (c : Int)] 3)) = Wc at b0 b1 b2 hbW hsz ⊢
    replace s0 := (hbW.block B (Array.getElem?_eq_some_iff.1 s0).1).trans s0
    replace s1 := (hbW.block (B + 1) (Array.getElem?_eq_some_iff.1 s1).1).trans s1
    replace s2 := boxed_below s2 hbW
    replace sm := sm.below hbW
    have hPB : B + 2 < P := by rw [← hP]; exact s2lt
    have hsbc := sb.trans (hbW.mono (by have := sb.size; omega))
    have k0 : Wc.cell? ⟨P + 1, 0, none⟩ = some (.string seed) := by simp [World.cell?, b1]
    have k1 : Wc.cell? ⟨P + 1, 1, none⟩ = some (.int .i64 i) := by simp [World.cell?, b1]
    clear hbW sb
    refine range_given rfl h1 (gf := 70) (lb := #[.pointer (some ⟨P + 1, 0, none⟩), .pointer (some ⟨P + 2, 0, none⟩)]) rfl trivial (enters_of Try.func70 (by kernel_rfl) rfl)
      (klinks_given (n - 1) (by omega) (P + 1) (P + 2) seed i (c : Int) Wc hs hi (by omega) k0 k1 b2.cell)
      (fun _ _ => trivial) (fun _ _ _ _ _ _ _ _ => trivial) (Below.refl _ _) (fun _ => rfl)
      (fun pre U => pre.length ≤ D c ∧ Below Wc.heap.size Wc U)
      (fun e pre U => e = .exit 2 ∧ Wc.grownBy U (some (B + 1)) ∧ U.heap[B + 1]? = some (.cells (SG.part seed i D (c + 1)) 9 (0, 0)))
      (OwnFrom.and (ownFrom_pure _ _) (ownFrom_below (Nat.le_refl _) (Nat.le_refl _)))
      (fun e pre X Y row hs hg hr => ⟨hs.1, ⟨hg.os.trans hs.2.1.os, hg.tape.trans hs.2.1.tape, hg.output.trans hs.2.1.output, Nat.le_trans hs.2.1.size hg.size, fun k hk hne => (hg.block k (Nat.lt_of_lt_of_le hk hs.2.1.size) (fun e => by have := (hr k e.symm).1; omega)).trans (hs.2.1.block k hk hne)⟩,
        (hg.block (B + 1) (Array.getElem?_eq_some_iff.1 hs.2.2).1 (fun e => by have := (hr _ e.symm).1; omega)).trans hs.2.2⟩)
      (fun pre X Y b hs hg hb _ _ => ⟨hs.1, hs.2.grown hg hs.2.size (fun k e => by cases e; exact hb)⟩)
      (fun e pre X Y b hs hg hb _ _ => ⟨hs.1, ⟨hg.os.trans hs.2.1.os, hg.tape.trans hs.2.1.tape, hg.output.trans hs.2.1.output, Nat.le_trans hs.2.1.size hg.size, fun k hk hne => (hg.block k (Nat.lt_of_lt_of_le hk hs.2.1.size) (fun e => by have := Option.some.inj e; omega)).trans (hs.2.1.block k hk hne)⟩,
        (hg.block (B + 1) (Array.getElem?_eq_some_iff.1 hs.2.2).1 (fun e => by have := Option.some.inj e; omega)).trans hs.2.2⟩)
      ⟨Nat.zero_le _, Below.refl _ _⟩
      (fun pre x a' U => x = (pre.length, SG.link seed i c pre.length) ∧ a' = { tmps := #[.func (.func 39) #[.agg #[.string seed, .int .i64 i]] #[], .agg (SG.numA D), undef, .pointer (some ⟨B, 0, none⟩), .slice none 0 0, .pointer (some ⟨B + 2, 0, none⟩), .pointer (some ⟨P, 0, none⟩), .int .i64 (x.1 : Int), .string x.2, .slice (some ⟨B + 1, 0, none⟩) 18 18, .slice (some ⟨B + 1, 0, none⟩) 18 18, .int .i64 18, .int .i64 (c : Int), .bool true, .int .i64 (c : Int), .func (.func 39) #[.agg #[.string seed, .int .i64 i]] #[], .int .i64 (c : Int), .func (.func 70) #[] #[.pointer (some ⟨P + 1, 0, none⟩), .pointer (some ⟨P + 2, 0, none⟩)], .int .i64 (x.1 : Int), .string x.2, u20, u21, u22, u23, u24, u25, u26, u27, u28, u29, undef], defers := [] })
      (fun pre x a' _ X Y row hs _ _ => hs)
      ?assign ?body ?done ?stop
    case assign =>
      rintro l pre ⟨xn, xs⟩ U K hI ⟨hG, _⟩ hK
      have HG := Lib.hid hG
      have HI := Lib.hid hI
      clear hG hI
      simp only [lkEnc]
      gi_wp2
      exact hK _ _ (KeepsFrom.refl _ _) trivial HI.out ⟨HG.out, rfl⟩
    case body =>
      rintro l pre ⟨xn, xs⟩ a' U hl ⟨r, hr⟩ ⟨hlen, hbU⟩ ⟨hx, rfl⟩
      obtain ⟨m, hm⟩ : ∃ m, pre.length = m := ⟨_, rfl⟩
      obtain ⟨d, hd⟩ : ∃ d, D c = d := ⟨_, rfl⟩
      rw [hm] at hx hlen
      rw [hd] at hlen hDc
      injection hx with hx1 hx2
      subst hx1
      have t0 := (hbU.block B (Array.getElem?_eq_some_iff.1 s0).1).trans s0
      have t1 := (hbU.block (B + 1) (Array.getElem?_eq_some_iff.1 s1).1).trans s1
      have t2 := boxed_below s2 hbU
      have t3 := boxed_below b0 hbU
      have c0 : U.cell? ⟨B, c, none⟩ = some (.int .i64 (d : Int)) := by
        simp [World.cell?, t0, SG.numA_at D hc18, hd]
      have c1 : U.cell? ⟨B + 1, c, none⟩ ≠ none := by
        simp only [World.cell?, t1]
        rw [Array.getElem?_eq_getElem (by rw [SG.part_size _ _ _ hc]; exact hc18)]
        simp
      obtain ⟨v1, hv1⟩ := Option.ne_none_iff_exists'.1 c1
      have f1 : U.frozen? ⟨B + 1, c, none⟩ = false := by simp [World.frozen?, t1]
      have c2 := t2.cell
      have c3 := t3.cell
      have hk0 : (0 : Int) ≤ (c : Int) := by omega
      have HM := Lib.hid hm
      have HX := Lib.hid hx2
      have HDD := Lib.hid hd
      have HT1 := Lib.hid t1
      have HBU := Lib.hid hbU
      have HPL : Hid ((pre ++ [(xn, xs)]).length = xn + 1) := Lib.hid (by rw [List.length_append, hm]; rfl)
      clear hm hx2 hd t0 t1 t2 t3 hbU c1 hr
      by_cases he : xn = d
      · have e1 : ((xn : Int) == (d : Int)) = true := by simp [he]
        have HE := Lib.hid he
        clear he
        gi_wp2
        refine ⟨(KeepsOthers.setCell _ _ _).from _, rfl, ?_, ?_⟩
        · have hb := HBU.out
          exact ⟨hb.os, hb.tape, hb.output, by simpa [World.setCell] using hb.size, fun k hk hne => (Below.heap_setCell _ _ _ _ (fun e => hne (by simp [e]))).trans (hb.block k hk)⟩
        · have := heap_setCell_same U (B + 1) c _ 9 (.string xs) HT1.out
          rw [← SG.part_next seed i D hc18, HDD.out, ← HE.out, ← HX.out]
          exact this
      · have e1 : ((xn : Int) == (d : Int)) = false := by simp; omega
        gi_wp2
        exact ⟨KeepsFrom.refl _ _, trivial, by rw [HPL.out, HDD.out]; omega, HBU.out⟩
    case done =>
      rintro Dm xs V hDm hlen ⟨hle, _⟩ hK
      omega
    case stop =>
      rintro Dm e pre V hDm _ ⟨rfl, hg, hrow⟩ hK
      have hnew : ChSt seed i D B (c + 1) (Dm :: rs) w V := by
        refine ⟨(hg.block B (Array.getElem?_eq_some_iff.1 s0).1 (fun e => by have := Option.some.inj e; omega)).trans s0, hrow, s2.kept hg (fun e => by have := Option.some.inj e; omega), ?_, hsbc.grown hg (by have := hsbc.size; omega) (fun k e => by cases e; omega), sB⟩
        refine (sm.grown hg (fun r e => by cases e; exact sm.cells s1)).cons (fun hm => ?_) (by have := s2.lt; omega) hK
        have := sm.lt _ hm
        omega
      have HN := Lib.hid hnew
      clear hnew hrow hg hK
      gi_wp2
      exact ⟨⟨c + 1, Dm :: rs, _, _, _, _, _, _, _, _, _, _, _, _, _, _, _, _, _, _, _, _, by go_num, hc18, HN.out⟩, by simp [intOf]; omega⟩
  · obtain rfl : c = 18 := by omega
    have c2 := s2.cell
    have HM := Lib.hid sm
    have hsz := s2.lt
    gi_wp2
    refine leaves_marks rs W HM.out (by omega) (fun w' hw' hcs => ?_)
    refine ⟨_, results_tmp rfl _ _ _, _, rfl, ?_, ?_⟩
    · rw [HB.out]
      refine ⟨by rw [List.length_map, SG.pick_len], .inr ⟨B + 1, 18, _, rfl, by omega, hcs _ _ _ _ s1, Nat.le_refl _, by unfold maxLen; omega, by rw [SG.part_size _ _ _ (Nat.le_refl _)], ?_⟩⟩
      simp only [SG.part, Nat.sub_self, List.replicate_zero, List.append_nil, Nat.mul_one]
      exact List.take_of_length_le (by rw [List.length_map, SG.pick_len]; exact Nat.le_refl _)
    · rw [HB.out]
      exact sb.trans hw'
theorem choose_any (seed : ByteArray) (i : Int) (D : Nat → Nat) (w : World) (hs : seed.size ≤ 1000000) (hi : -1000000 ≤ i ∧ i ≤ 1000000) (hD : ∀ c, c < 18 → D c ≤ 15) :
    Calls Try.prog 38 #[.func (.func 39) #[.agg #[.string seed, .int .i64 i]] #[], .agg (SG.numA D)] w fun e w' => ∃ v, e = .returned v ∧ w'.ownsRow w.heap.size 9 1 v 18 ((SG.pick seed i D 18).map Value.string) ∧ Below w.heap.size w w' :=
  callsIn_wide.1 (choose_in 4 (Nat.le_refl _) seed i D w hs hi hD)
end Go.Proofs.Ytinkhgmdeldniaa
end
