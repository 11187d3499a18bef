/- Texts merged: DigLev, DigFew, DigRLev. No conditions. -/
import Derived.Test.YtinkhgmdeldniaaDigVerP
import Derived.Deep.RegionHeld3
import Derived.Deep.AppendLies
/- Levels of a tree: one element, the next level. -/
section
namespace Go.Proofs.Ytinkhgmdeldniaa.DG
set_option maxRecDepth 100000
/-- The level above a level: its elements, filled up with f. -/
def up (f : ByteArray) : List ByteArray → List ByteArray
  | [] => []
  | [a] => [Pair a f]
  | a :: b :: l => Pair a b :: up f l
end Go.Proofs.Ytinkhgmdeldniaa.DG
namespace Go.Proofs.Ytinkhgmdeldniaa
set_option linter.unusedVariables false
open Go.RowKit
abbrev lv (a : Option Addr) (n c : Nat) (f : ByteArray) (m : Nat) : Value := .agg #[.slice a n c, .string f, .int .i64 m]
set_option maxRecDepth 100000 in
set_option maxHeartbeats 1000000 in
theorem at_any (a : Option Addr) (c : Nat) (L : List ByteArray) (f : ByteArray) (m i : Nat) (w : World) (hr : RowAt w (.slice a L.length c) (L.map Value.string)) (hL : L.length ≤ maxLen) (hi : i ≤ maxLen) :
    Calls Try.prog 65 #[lv a L.length c f m, .int .i64 i] w fun e w' => e = .returned (.string (L.getD i f)) ∧ Below w.heap.size w w' := by
  have HR : Hid (∀ wr, Below w.heap.size w wr → ∀ k, ∀ hk : k < L.length, ∃ g o, a = some ⟨g, o, none⟩ ∧ g < wr.heap.size ∧ wr.cell? ⟨g, o + k, none⟩ = some (.string L[k])) := Lib.hid (fun wr hb k hk => by
    have := (hr.keep hb).cell (a := a) (k := k) (by simpa using hk)
    simpa using this)
  obtain ⟨r, hrr⟩ : ∃ r, L.getD i f = r := ⟨_, rfl⟩
  rw [hrr]
  unfold maxLen at hL hi
  obtain ⟨n, hn⟩ : ∃ n, L.length = n := ⟨_, rfl⟩
  by_cases hil : i < L.length
  · have hil' : i < n := by omega
    have hii : (i : Int) < (n : Int) := by omega
    obtain ⟨g, o, rfl, hg, hc⟩ := HR.out w (Below.refl _ _) i hil
    have hri : L[i] = r := by rw [← hrr]; simp [List.getD, hil]
    rw [hri] at hc
    rw [hn]
    have hgw : ¬ g = w.heap.size := by omega
    clear hr hrr hri hil hL hn
    go_enter Try.func65, Try.ntmps65
    go_wp2
    go_ret
    exact ⟨rfl, balloc (Below.refl _ _) _⟩
  · have hii : ¬ (i : Int) < (n : Int) := by omega
    have hri : f = r := by rw [← hrr]; simp [List.getD, hil]
    subst hri
    rw [hn]
    clear hr hrr hil hL hn
    go_enter Try.func65, Try.ntmps65
    go_wp2
    go_ret
    exact ⟨rfl, balloc (Below.refl _ _) _⟩
end Go.Proofs.Ytinkhgmdeldniaa
end
/- At most twenty strings, of at most 40 bytes each: what the laws make of their lists. -/
section
namespace Go.Proofs.Ytinkhgmdeldniaa
set_option maxRecDepth 100000
set_option linter.unusedVariables false
open Go.RowKit
theorem slice_head (X : ByteArray) (m : Nat) (h : (m : Int) ≤ (X.size : Int)) (V : World) : (Instr.slice 9 (.string X) none (some (.int .i64 (m : Int))) none).run Try.prog V = .ok (.string (X.extract 0 m)) V := by
  have := run_slice_string_h (P := Try.prog) (w := V) (t := 9) (s := X) Try.underlying9 .i64 (m : Int) (by omega) h
  rw [Int.toNat_natCast] at this
  exact this
def DG.short (s : ByteArray) : ByteArray := s.extract 0 (min s.size 40)
theorem DG.short_size (s : ByteArray) : (DG.short s).size ≤ 40 := by unfold DG.short; rw [ByteArray.size_extract]; omega
def DG.few (L : List ByteArray) (k : Nat) : List ByteArray := (L.take k).map DG.short
theorem DG.few_next (L : List ByteArray) (k : Nat) (h : k < L.length) : DG.few L (k + 1) = DG.few L k ++ [DG.short L[k]] := by
  unfold DG.few
  rw [List.take_add_one, List.getElem?_eq_getElem h, List.map_append]
  rfl
theorem DG.few_len (L : List ByteArray) (k : Nat) : (DG.few L k).length ≤ k := by unfold DG.few; simp; omega
theorem DG.few_all (L : List ByteArray) (k m : Nat) (h : L.length ≤ k) (h2 : L.length ≤ m) : DG.few L m = DG.few L k := by unfold DG.few; rw [List.take_of_length_le h, List.take_of_length_le h2]
end Go.Proofs.Ytinkhgmdeldniaa
end
/- The reference's level above a level. -/
section
namespace Go.Proofs.Ytinkhgmdeldniaa
set_option maxRecDepth 100000
set_option linter.unusedVariables false
open Go.RowKit
def DG.pr (L : List ByteArray) (i : Nat) : ByteArray := DG.Pair (L.getD (2 * i) .empty) (L.getD (2 * i + 1) .empty)
def DG.prs (L : List ByteArray) (j : Nat) : List ByteArray := (List.range j).map (DG.pr L)
theorem DG.prs_succ (L : List ByteArray) (j : Nat) : DG.prs L (j + 1) = DG.prs L j ++ [DG.pr L j] := by unfold DG.prs; rw [List.range_succ, List.map_append]; rfl
theorem DG.prs_len (L : List ByteArray) (j : Nat) : (DG.prs L j).length = j := by simp [DG.prs]
theorem own_kept {w w' : World} {B e size n : Nat} {v : Value} {xs : List Value} (h : w.ownsRow B e size v n xs) (hb : Below w.heap.size w w') : w'.ownsRow B e size v n xs := by
  refine ⟨h.1, ?_⟩
  rcases h.2 with hn | ⟨g, cap, cur, rfl, hg, hgg, rest⟩
  · exact .inl hn
  · exact .inr ⟨g, cap, cur, rfl, hg, by rw [hb.block g (Array.getElem?_eq_some_iff.1 hgg).1]; exact hgg, rest⟩
set_option maxRecDepth 100000 in
set_option maxHeartbeats 4000000 in
theorem rlevel_any (a : Option Addr) (c : Nat) (L : List ByteArray) (w : World) (hr : RowAt w (.slice a L.length c) (L.map Value.string)) (hL : L.length ≤ 2000000) (hs : ∀ s ∈ L, s.size < 2147483648) :
    Calls Try.prog 82 #[.slice a L.length c] w fun e w' => ∃ v, e = .returned v ∧ w'.ownsRow w.heap.size 9 1 v (L.length / 2) ((DG.prs L (L.length / 2)).map Value.string) ∧ Below w.heap.size w w' := by
  obtain ⟨i0, hi, hz0, hz1, hz2⟩ := info_parts info_string
  have HR : Hid (∀ wr, Below w.heap.size w wr → ∀ k, ∀ hk : k < L.length, ∃ g o, a = some ⟨g, o, none⟩ ∧ g < w.heap.size ∧ wr.cell? ⟨g, o + k, none⟩ = some (.string L[k])) := Lib.hid (fun wr hb k hk => by
    obtain ⟨g, o, h1, h2, h3⟩ := hr.cell (a := a) (k := k) (by simpa using hk)
    refine ⟨g, o, h1, h2, ?_⟩
    have := (hb.cell (p := ⟨g, o + k, none⟩) h2).trans h3
    simpa using this)
  have HS := Lib.hid hs
  clear hr hs
  obtain ⟨n, hn⟩ : ∃ n, L.length = n := ⟨_, rfl⟩
  have HN := Lib.hid hn
  rw [hn] at hL ⊢
  clear hn
  go_enter Try.func82, Try.ntmps82
  go_wp2
  go_loopw [3, 4] (fun v3 v4 wr => ∃ j : Nat, v4 = .int .i64 (2 * (j : Int)) ∧ 2 * j ≤ n ∧ wr.ownsRow w.heap.size 9 1 v3 j ((DG.prs L j).map Value.string) ∧ Below w.heap.size w wr) (fun _ v _ => n - (intOf v).toNat)
  case atStart => exact ⟨0, rfl, by omega, World.ownsRow_nil _ _ _ _, Below.refl _ _⟩
  case round =>
    obtain ⟨j, rfl, hj, hrow, hb⟩ := hrel
    have hbs := hb.size
    by_cases hjn : 2 * j + 1 < n
    · have i1 : 2 * (j : Int) + 1 < (n : Int) := by omega
      have i2 : 2 * (j : Int) < (n : Int) := by omega
      have i3 : (0 : Int) ≤ 2 * (j : Int) := by omega
      have i4 : (0 : Int) ≤ 2 * (j : Int) + 1 := by omega
      have t1 : (2 * (j : Int)).toNat = 2 * j := by omega
      have t2 : (2 * (j : Int) + 1).toNat = 2 * j + 1 := by omega
      have k1 : 2 * j < L.length := by rw [HN.out]; omega
      have k2 : 2 * j + 1 < L.length := by rw [HN.out]; omega
      obtain ⟨g, o, rfl, hg, cx⟩ := HR.out wr hb _ k1
      obtain ⟨g', o', he, _, cy⟩ := HR.out wr hb _ k2
      injection he with he
      injection he with he1 he2
      subst he1 he2
      obtain ⟨x, hx⟩ : ∃ x, L[2 * j] = x := ⟨_, rfl⟩
      obtain ⟨y, hy⟩ : ∃ y, L[2 * j + 1] = y := ⟨_, rfl⟩
      have sx : x.size < 2147483648 := by rw [← hx]; exact HS.out _ (List.getElem_mem _)
      have sy : y.size < 2147483648 := by rw [← hy]; exact HS.out _ (List.getElem_mem _)
      obtain ⟨z, hz⟩ : ∃ z, DG.Pair x y = z := ⟨_, rfl⟩
      have HZ : Hid (DG.prs L (j + 1) = DG.prs L j ++ [z]) := Lib.hid (by
        rw [DG.prs_succ, ← hz]
        unfold DG.pr
        simp [List.getD, k1, k2, hx, hy])
      rw [hx] at cx
      rw [hy] at cy
      have HCELL : Hid (∀ V, Below w.heap.size w V → V.cell? ⟨g, o + 2 * j, none⟩ = some (.string x) ∧ V.cell? ⟨g, o + (2 * j + 1), none⟩ = some (.string y)) := Lib.hid fun V hV => by
        obtain ⟨g1, o1, e1, _, d1⟩ := HR.out V hV _ k1
        obtain ⟨g2, o2, e2, _, d2⟩ := HR.out V hV _ k2
        injection e1 with e1
        injection e1 with e1 e1'
        injection e2 with e2
        injection e2 with e2 e2'
        subst e1 e1' e2 e2'
        rw [hx] at d1
        rw [hy] at d2
        exact ⟨d1, d2⟩
      have HPP : Hid (∀ W, Below wr.heap.size wr W → Calls Try.prog 55 #[.string x, .string y] W fun e w' => e = .returned (.string z) ∧ Below wr.heap.size wr w') := Lib.hid fun W hW => (rPair_any x y W sx sy).mono (fun e w' h => ⟨by rw [← hz]; exact h.1, bnext hW h.2⟩)
      obtain ⟨va, vc, rfl⟩ := own_shape hrow
      have HROW := Lib.hid hrow
      have HB := Lib.hid hb
      clear hrow hb hx hy hz k1 k2 HR HS
      go_wp2_with fail
      obtain ⟨c1, c2⟩ := HCELL.out wr HB.out
      have xw : IntKind.i64.wrap (2 * (j : Int) + 1) = 2 * (j : Int) + 1 := by rw [IntKind.wrap_i64]; omega
      have HKC : Hid (∀ V, Below wr.heap.size wr V → V.cell? ⟨g, o + 2 * j, none⟩ = some (.string x) ∧ V.cell? ⟨g, o + (2 * j + 1), none⟩ = some (.string y)) := Lib.hid fun V hV => HCELL.out V (bnext HB.out hV)
      go_region_held3 (fun w' => w'.cell? ⟨g, o + 2 * j, none⟩ = some (.string x) ∧ w'.cell? ⟨g, o + (2 * j + 1), none⟩ = some (.string y))
        (first | (exact HCELL.out _ ((HB2.out.alloc hbs2 _).grown hgrow (by simp; omega) (fun j hj => (HROW2.out.lt j hj).1))) | (refine HKC.out _ ?_; (repeat' (first | exact Below.refl _ _ | (with_reducible assumption) | (refine bnext ?_ (by with_reducible assumption)) | (refine balloc ?_ _) | (refine below_drewN ?_ _) | (refine Below.drew ?_)))))
        (first | (go_at_call 55; refine (HPP.out _ (by (repeat' (first | exact Below.refl _ _ | (with_reducible assumption) | (refine bnext ?_ (by with_reducible assumption)) | (refine balloc ?_ _) | (refine below_drewN ?_ _) | (refine Below.drew ?_))))).mono ?_; rintro e w2 ⟨rfl, hb2⟩; have HROW2 := Lib.hid (own_kept HROW.out hb2); have HB2 := Lib.hid (bnext HB.out hb2); have hbs2 := HB2.out.size) | (refine step_append_lies _ (by rfl) _ _ _ (by rfl) w.heap.size 9 i0 _ 1 16 Try.underlying42 hi hz0 hz1 hz2 rfl (by omega) (.slice va j vc) _ _ (by rfl) (HROW2.out.alloc _) ⟨w2.heap.size, 0, none⟩ 1 1 [.string z] (by rfl) (by rfl) (World.news_of_block (cs := #[.string z]) (t := 9) (fr := (0, 0)) (heap_alloc_new w2 _)) (by simp [Value.oneCell']) (by omega) (by unfold maxLen; omega) (by omega) (by simp; omega) (w2.heap.size + 1) (by simp) ?_; intro gg cap' w1 hown1 hgrow hat hlt; have hBW1 : Below w.heap.size w w1 := ((HB2.out.alloc hbs2 _).grown hgrow (by simp; omega) (fun j hj => (HROW2.out.lt j hj).1))))
      have HOWN := Lib.hid hown1
      clear hgrow hat hlt hown1
      go_wp2
      go_roundw
      case rel => exact ⟨j + 1, by go_num, by omega, by rw [HZ.out, List.map_append]; exact HOWN.out, hBW1⟩
      case measure => simp [intOf]; omega
    · have hje : j = n / 2 := by omega
      subst hje
      have i1 : ¬ 2 * ((n / 2 : Nat) : Int) + 1 < (n : Int) := by omega
      go_wp2
      go_ret
      exact ⟨_, rfl, hrow, hb⟩
end Go.Proofs.Ytinkhgmdeldniaa
end
