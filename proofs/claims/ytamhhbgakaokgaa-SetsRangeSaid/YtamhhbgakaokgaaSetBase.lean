/- Lists of at most forty numbers, literals, and what the statements ask. -/
import Derived.Test.YtamhhbgakaokgaaSetOps
namespace Go.Proofs.Ytamhhbgakaokgaa
open Go.RowKit Go.Maps Go.ChangeShapes Go.WideShapes
theorem lit1 {w : World} {g c : Nat} {a : Int} (h0 : w.cell? ⟨g, 0, none⟩ = some (.int .i64 a)) (hg : g < w.heap.size) : RowAt w (.slice (some ⟨g, 0, none⟩) 1 c) (iv [a]) :=
  ⟨_, _, rfl, .inr ⟨g, 0, rfl, hg, fun i hi => by
    match i, hi with
    | 0, _ => simpa using h0⟩⟩
theorem lit2 {w : World} {g c : Nat} {a b : Int} (h0 : w.cell? ⟨g, 0, none⟩ = some (.int .i64 a)) (h1 : w.cell? ⟨g, 1, none⟩ = some (.int .i64 b)) (hg : g < w.heap.size) : RowAt w (.slice (some ⟨g, 0, none⟩) 2 c) (iv [a, b]) :=
  ⟨_, _, rfl, .inr ⟨g, 0, rfl, hg, fun i hi => by
    match i, hi with
    | 0, _ => simpa using h0
    | 1, _ => simpa using h1⟩⟩
theorem lit3 {w : World} {g k : Nat} {a b c : Int} (h0 : w.cell? ⟨g, 0, none⟩ = some (.int .i64 a)) (h1 : w.cell? ⟨g, 1, none⟩ = some (.int .i64 b)) (h2 : w.cell? ⟨g, 2, none⟩ = some (.int .i64 c)) (hg : g < w.heap.size) : RowAt w (.slice (some ⟨g, 0, none⟩) 3 k) (iv [a, b, c]) :=
  ⟨_, _, rfl, .inr ⟨g, 0, rfl, hg, fun i hi => by
    match i, hi with
    | 0, _ => simpa using h0
    | 1, _ => simpa using h1
    | 2, _ => simpa using h2⟩⟩
theorem lit4 {w : World} {g k : Nat} {a b c d : Int} (h0 : w.cell? ⟨g, 0, none⟩ = some (.int .i64 a)) (h1 : w.cell? ⟨g, 1, none⟩ = some (.int .i64 b)) (h2 : w.cell? ⟨g, 2, none⟩ = some (.int .i64 c)) (h3 : w.cell? ⟨g, 3, none⟩ = some (.int .i64 d)) (hg : g < w.heap.size) : RowAt w (.slice (some ⟨g, 0, none⟩) 4 k) (iv [a, b, c, d]) :=
  ⟨_, _, rfl, .inr ⟨g, 0, rfl, hg, fun i hi => by
    match i, hi with
    | 0, _ => simpa using h0
    | 1, _ => simpa using h1
    | 2, _ => simpa using h2
    | 3, _ => simpa using h3⟩⟩
theorem lit0 (w : World) : RowAt w (.slice none 0 0) (iv []) := (Lst.nil w).row
theorem same_t (va vb : Value) (A B : List Int) (w : World) (ha : RowAt w va (iv A)) (hb : RowAt w vb (iv B)) (hE : A = B) (hA : A.length ≤ 1000000000000) :
    Calls Try.prog 12 #[va, vb] w fun e w' => e = .returned (.bool true) ∧ Below w.heap.size w w' := by
  have := same_any va vb A B w ha hb hA (by rw [← hE]; exact hA)
  rwa [decide_eq_true hE] at this
set_option maxHeartbeats 400000 in
theorem is_t (va vb : Value) (A B : List Int) (w : World) (ha : RowAt w va (iv A)) (hb : RowAt w vb (iv B)) (hE : A = B) (hA : A.length ≤ 1000000000000) :
    Calls Try.prog 29 #[va, vb] w fun e w' => e = .returned (.bool true) ∧ Below w.heap.size w w' := by
  have HC := Lib.hid (same_t va vb A B w ha hb hE hA)
  obtain ⟨aa, ac, rfl, _⟩ := ha.out
  obtain ⟨ba, bc, rfl, _⟩ := hb.out
  rw [iv_len, iv_len] at HC ⊢
  clear ha hb hE
  go_enter Try.func29, Try.ntmps29
  go_wp2_with (go_at_call 12; refine HC.out.mono ?_; rintro e w1 ⟨rfl, hb1⟩)
  go_ret
  exact ⟨rfl, hb1⟩
theorem right_t (va : Value) (A : List Int) (b : Bool) (w : World) (ha : RowAt w va (iv A)) (hA : A.length ≤ 1000000) (hR : SP.right A = b) :
    Calls Try.prog 15 #[va] w fun e w' => e = .returned (.bool b) ∧ Below w.heap.size w w' := by
  subst hR; exact right_any va A w ha hA
theorem has_t (v : Value) (L : List Int) (n : Int) (b : Bool) (w : World) (hv : RowAt w v (iv L)) (hL : L.length ≤ 1000000000000) (hb : decide (n ∈ L) = b) :
    Calls Try.prog 17 #[v, .int .i64 n] w fun e w' => e = .returned (.bool b) ∧ w' = w := by
  subst hb; exact has_any v L n w hv hL
theorem overlap_t (va vb : Value) (A B : List Int) (b : Bool) (w : World) (ha : RowAt w va (iv A)) (hb : RowAt w vb (iv B)) (wA : InR A) (wB : InR B) (hE : decide (SP.meet A B ≠ []) = b) :
    Calls Try.prog 25 #[va, vb] w fun e w' => e = .returned (.bool b) ∧ Below w.heap.size w w' := by
  subst hE; exact overlap_any va vb A B w ha hb wA wB
/-- Lists of at most n numbers. -/
def InN (n : Nat) (A : List Int) : Prop := A.length ≤ n ∧ ∀ x ∈ A, (Lit.int .i64 x).wf = true
theorem InN.r {n : Nat} {A : List Int} (h : InN n A) (hn : n ≤ 1000000) : InR A := ⟨Nat.le_trans h.1 hn, h.2⟩
theorem InN.norm {n : Nat} {A : List Int} (h : InN n A) : InN n (SP.norm A) := ⟨Nat.le_trans (SP.norm_len A) h.1, fun x hx => h.2 x (SP.mem_norm.1 hx)⟩
theorem InN.join {n m : Nat} {A B : List Int} (h : InN n A) (k : InN m B) : InN (n + m) (SP.join A B) := ⟨Nat.le_trans (SP.join_len A B) (Nat.add_le_add h.1 k.1), fun x hx => (SP.mem_join.1 hx).elim (h.2 x) (k.2 x)⟩
theorem InN.meet {n : Nat} {A B : List Int} (h : InN n A) : InN n (SP.meet A B) := ⟨Nat.le_trans (SP.meet_len A B) h.1, fun x hx => h.2 x (SP.mem_meet.1 hx).1⟩
theorem InN.less {n : Nat} {A B : List Int} (h : InN n A) : InN n (SP.less A B) := ⟨Nat.le_trans (SP.less_len A B) h.1, fun x hx => h.2 x (SP.mem_less.1 hx).1⟩
theorem InN.take {n : Nat} {A : List Int} (h : ∀ x ∈ A, (Lit.int .i64 x).wf = true) : InN n (A.take n) := ⟨by simp; omega, fun x hx => h x (List.mem_of_mem_take hx)⟩
theorem inN_lit {A : List Int} (h : (A.all fun x => decide (-9223372036854775808 ≤ x ∧ x ≤ 9223372036854775807)) = true) : InN A.length A := ⟨Nat.le_refl _, fun x hx => by
  have := List.all_eq_true.1 h x hx
  simp at this
  exact WalkArith.wf_i64 (by omega)⟩
theorem keepB {w w' : World} {v : Value} {P : List Int} (h : Lst w v P) (hb : Below w.heap.size w w') : RowAt w' v (iv P) := (h.keep hb).row
set_option maxRecDepth 100000 in
set_option maxHeartbeats 1000000 in
theorem few_any (va : Value) (A : List Int) (w : World) (hs : Src w va (iv A)) (hA : A.length ≤ maxLen) (hc : ∀ a n c, va = .slice a n c → n ≤ c) :
    Calls Try.prog 11 #[va] w fun e w' => ∃ v', e = .returned v' ∧ Own w w' v' (A.take 40) ∧ Below w.heap.size w w' := by
  have ha := hs.row
  obtain ⟨aa, ac, rfl, hss⟩ := hs.out
  obtain ⟨i0, hi, hz0, hz1, hz2⟩ := info_parts info_int
  have hcc := hc _ _ _ rfl
  rw [iv_len] at ha hcc hs ⊢
  have hmx : maxLen = 9223372036854775807 := rfl
  rw [hmx] at hA
  have HA := Lib.hid ha
  have HSS := Lib.hid hs
  clear ha hc hmx hss hs
  obtain ⟨m, hm⟩ : ∃ m : Nat, m = min A.length 40 := ⟨_, rfl⟩
  have em : min (A.length : Int) 40 = (m : Int) := by omega
  have hmA : m ≤ A.length := by omega
  have hm4 : m ≤ 40 := by omega
  have HM : Hid (A.take 40 = A.take m) := Lib.hid (by
    rcases Nat.le_total A.length 40 with h | h
    · rw [hm, Nat.min_eq_left h, List.take_of_length_le h, List.take_length]
    · rw [hm, Nat.min_eq_right h])
  clear hm
  have hl : (A.take m).length = m := by simp; omega
  obtain ⟨T, hT⟩ : ∃ T, A.take m = T := ⟨_, rfl⟩
  have HS : Hid (RowAt w (.slice aa m ac) (iv T)) := Lib.hid (by
    have := row_first HA.out (m := m) (by simpa using hmA)
    rwa [← List.map_take, hT] at this)
  rw [hT] at HM hl
  have hT4 : T.length ≤ 40 := by omega
  have HSRC : Hid (Src w (.slice aa m ac) (iv T)) := Lib.hid (by
    have := HSS.out.take (k := m) hmA
    rwa [← List.map_take, hT] at this)
  clear hT hl
  go_enter Try.func11, Try.ntmps11
  go_wp2_with (at_builtin; refine wpList_app _ rfl _ _ 22 rfl w.heap.size 3 i0 (.int .i64 0) 8 Try.underlying22 hi hz0 hz1 hz2 rfl _ _ _ rfl (own_lit w [] 3 _ (Nat.le_refl _) (by simp)) _ (iv T) rfl (HSRC.out.keep (balloc (Below.refl _ _) _)) (ints_one _) ?ca ?cb ?cc ?_)
  try case ca => unfold maxLen; first | omega | (simp <;> omega)
  try case cb => first | omega | (simp <;> omega)
  try case cc => first | omega | (simp <;> omega)
  intro v1 w1 hown1 hgrow1 _
  have hb1 : Below w.heap.size w w1 := (balloc (Below.refl _ _) _).grown hgrow1 (by simp) (fun j hj => by cases hj; exact Nat.le_refl _)
  replace hown1 := own_iv hown1 T (by simp)
  obtain ⟨a1, c1, rfl⟩ := own_shape hown1
  have HO := Lib.hid hown1
  clear hown1 hgrow1
  go_wp2
  go_ret
  rw [HM.out]
  exact ⟨_, rfl, HO.out, hb1⟩
/-- A list of numbers that came in. -/
theorem open_ls {H : Type} {enc : TypeId × Value → H} {W : World} {base : Nat} {v : Value} {d : DataW H} {p : List MemPlace} (hv : Value.okWide Try.prog W .any base 22 v) (h : DataW.Trod enc Try.prog W 0 (fun _ => true) true 22 v d p) :
    ∃ L : List Int, Src W v (iv L) ∧ (L.length ≤ maxLen ∧ ∀ a n c, v = .slice a n c → n ≤ c) ∧ ∀ x, x ∈ L → (Lit.int .i64 x).wf = true := by
  obtain ⟨a0, len, cap, rfl⟩ := okWide_slice Try.underlying22 hv
  obtain ⟨fuel, hf⟩ := h
  rcases open_ints Try.underlying22 Try.underlying3 (by kernel_rfl) hf with ⟨hcs, _⟩ | ⟨a, len', cap', zs, hcs, _, hl, hm, hzl, _, hz, hwf⟩
  · simp [Value.cells] at hcs
    obtain ⟨rfl, rfl, rfl⟩ := hcs
    exact ⟨[], Src.nil W, ⟨by simp [maxLen], fun a n c h => by injection h with _ h2 h3; omega⟩, by simp⟩
  · simp [Value.cells] at hcs
    obtain ⟨rfl, rfl, rfl⟩ := hcs
    rw [if_pos rfl] at hzl
    refine ⟨zs.take len, ?_, ⟨by simp; omega, fun a n c h => by injection h with _ h2 h3; omega⟩, fun x hx => hwf x (List.mem_of_mem_take hx)⟩
    have hr : RowAt W (.slice (some a) len cap) (iv (zs.take len)) := row_of (by simp; omega) (fun i hi => by
      have hi' : i < len ∧ i < zs.length := by simp at hi; omega
      rw [hz i hi'.2]
      simp [List.getD, hi'.1, hi'.2])
    obtain ⟨a', c', he, h'⟩ := hr.out
    refine ⟨a', c', he, ?_⟩
    rcases h' with h' | h'
    · exact .inl ⟨h', fun e => by injection he with e1; rw [e] at e1; cases e1⟩
    · exact .inr h'
end Go.Proofs.Ytamhhbgakaokgaa
