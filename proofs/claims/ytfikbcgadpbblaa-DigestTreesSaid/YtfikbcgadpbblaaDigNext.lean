/- The next level. -/
import Derived.Test.YtfikbcgadpbblaaDigLev
import Derived.Test.YtfikbcgadpbblaaDigRLev
import Derived.Test.YtfikbcgadpbblaaLast
import Derived.Deep.CutRange
namespace Go.Proofs.Ytfikbcgadpbblaa
set_option linter.unusedVariables false
open Go.RowKit
/-- The elements of the level above: node i, the elements filled up with f. -/
def DG.uf (f : ByteArray) (L : List ByteArray) (i : Nat) : ByteArray := DG.Pair (L.getD (2 * i) f) (L.getD (2 * i + 1) f)
def DG.ufs (f : ByteArray) (L : List ByteArray) (j : Nat) : List ByteArray := (List.range j).map (DG.uf f L)
theorem DG.ufs_succ (f : ByteArray) (L : List ByteArray) (j : Nat) : DG.ufs f L (j + 1) = DG.ufs f L j ++ [DG.uf f L j] := by unfold DG.ufs; rw [List.range_succ, List.map_append]; rfl
theorem DG.ufs_len (f : ByteArray) (L : List ByteArray) (j : Nat) : (DG.ufs f L j).length = j := by simp [DG.ufs]
theorem grown_setcell (w : World) (p i : Nat) (u : Value) : w.grownBy (w.setCell ⟨p, i, none⟩ u) (some p) :=
  ⟨rfl, rfl, rfl, (KeepsWalks.setCell w _ u).size, fun k _ hk => Below.heap_setCell _ _ _ k (fun e => hk (by rw [e]))⟩
/-- A store elsewhere leaves a row as it was. -/
theorem own_setcell {w : World} {B e size n p : Nat} {v : Value} {xs : List Value} (h : w.ownsRow B e size v n xs) {i : Nat} (hp : p < B) (u : Value) : (w.setCell ⟨p, i, none⟩ u).ownsRow B e size v n xs := by
  refine h.kept (row := some p) (grown_setcell w p i u) ?_
  cases hw : v.ownBlock with
  | none => exact Or.inl rfl
  | some k => exact Or.inr (fun e => by have := (h.lt k hw).1; have := Option.some.inj e; omega)
/-- The element at this place. -/
def AtIs (L : List ByteArray) (f : ByteArray) (i : Int) (r : ByteArray) : Prop := ∃ k : Nat, i = (k : Int) ∧ k ≤ maxLen ∧ L.getD k f = r
theorem getD_size {L : List ByteArray} {f : ByteArray} (hf : f.size < 2147483648) (hs : ∀ s ∈ L, s.size < 2147483648) (k : Nat) : (L.getD k f).size < 2147483648 := by
  by_cases h : k < L.length
  · simp only [List.getD, List.getElem?_eq_getElem h, Option.getD_some]; exact hs _ (List.getElem_mem _)
  · simp only [List.getD, List.getElem?_eq_none (Nat.le_of_not_lt h), Option.getD_none]; exact hf
set_option maxRecDepth 100000 in
set_option maxHeartbeats 4000000 in
theorem next_any (a : Option Addr) (c : Nat) (L : List ByteArray) (f : ByteArray) (m : Nat) (w : World) (hr : RowAt w (.slice a L.length c) (L.map Value.string)) (hL : L.length ≤ 1000000) (hm : m ≤ maxLen) (hf : f.size < 2147483648) (hs : ∀ s ∈ L, s.size < 2147483648) :
    Calls Try.prog 35 #[lv a L.length c f m] w fun e w' => ∃ a' c', e = .returned (.agg #[.slice a' ((L.length + 1) / 2) c', .string (DG.Pair f f), .int .i64 ((m / 2 : Nat) : Int)]) ∧ Src w' (.slice a' ((L.length + 1) / 2) c') ((DG.ufs f L ((L.length + 1) / 2)).map Value.string) ∧ (∀ g o, a' = some ⟨g, o, none⟩ → w.heap.size ≤ g) ∧ Below w.heap.size w w' := by
  obtain ⟨i0, hi, hz0, hz1, hz2⟩ := info_parts info_string
  have HAT : Hid (∀ i r, AtIs L f i r → ∀ W, Below w.heap.size w W → Calls Try.prog 29 #[lv a L.length c f m, .int .i64 i] W fun e w' => e = .returned (.string r) ∧ Below W.heap.size W w') := Lib.hid (fun i r ⟨k, hk, hkm, hkr⟩ W hW => by
    have := at_any a c L f m k W (hr.keep hW) (by unfold maxLen; omega) hkm
    rw [hkr, ← hk] at this
    exact this)
  have HSZ := Lib.hid (getD_size hf hs)
  have HF := Lib.hid hf
  obtain ⟨n, hn⟩ : ∃ n, L.length = n := ⟨_, rfl⟩
  have HN := Lib.hid hn
  rw [hn] at hr HAT ⊢
  obtain ⟨r, hrr⟩ : ∃ r, DG.Pair f f = r := ⟨_, rfl⟩
  have HP := Lib.hid (fun w => Pair_any f f w (by omega) (by unfold maxLen; omega))
  rw [hrr] at HP
  unfold maxLen at hm
  have hq : (m : Int).tdiv 2 = ((m / 2 : Nat) : Int) := by rw [Int.tdiv_eq_ediv_of_nonneg (by omega)]; omega
  obtain ⟨m2, hm2⟩ : ∃ m2, m / 2 = m2 := ⟨_, rfl⟩
  rw [hm2] at hq
  have hqe : (m : Int) / 2 = (m2 : Int) := by omega
  have hmi : (m : Int) ≤ 9223372036854775807 := by omega
  have hw : IntKind.i64.wrap (m2 : Int) = (m2 : Int) := by rw [IntKind.wrap_i64]; omega
  clear hm2
  go_enter Try.func35, Try.ntmps35
  go_upto_region 1 with (fail)
  obtain ⟨w2, hw2⟩ : ∃ w2, (w.alloc (.cells #[.slice a n c, .string f, .int .i64 m] 56)).alloc (.cells #[.slice none 0 0, .string ⟨#[]⟩, .int .i64 0] 56) = w2 := ⟨_, rfl⟩
  have hb2 : Below w.heap.size w w2 := by rw [← hw2]; exact balloc (balloc (Below.refl _ _) _) _
  have hs2 : w2.heap.size = w.heap.size + 2 := by rw [← hw2, World.size_alloc, World.size_alloc]
  have hx1 : w2.heap[w.heap.size]? = some (.cells #[.slice a n c, .string f, .int .i64 m] 56 (0, 0)) := by
    rw [← hw2]
    exact ((balloc (Below.refl _ (w.alloc _)) _).block _ (by rw [World.size_alloc]; omega)).trans (heap_alloc_new w _)
  have hx2 : w2.heap[w.heap.size + 1]? = some (.cells #[.slice none 0 0, .string ⟨#[]⟩, .int .i64 0] 56 (0, 0)) := by
    have := heap_alloc_new (w.alloc (.cells #[.slice a n c, .string f, .int .i64 m] 56)) (.cells #[.slice none 0 0, .string ⟨#[]⟩, .int .i64 0] 56)
    rwa [World.size_alloc, hw2] at this
  rw [hw2]
  obtain ⟨B, hB⟩ : ∃ B, w.heap.size = B := ⟨_, rfl⟩
  rw [hB] at hs2 hx1 hx2 ⊢
  have KS : Hid (∀ w', Below w2.heap.size w2 w' → Below w2.heap.size w2 w' ∧ w'.cell? ⟨B, 1, none⟩ = some (.string f) ∧ w'.cell? ⟨B, 2, none⟩ = some (.int .i64 m)) := Lib.hid fun w' h => by
    have := (h.block B (by omega)).trans hx1
    exact ⟨h, by simp [World.cell?, this], by simp [World.cell?, this]⟩
  clear hw2
  go_cut [3] from 5 to 13 (fun s3 wx => ∃ p, s3 = .pointer (some ⟨p, 0, none⟩) ∧ wx.heap[p]? = some (.cells #[.slice none 0 0, .string r, .int .i64 m2] 56 (0, 0)) ∧ B + 2 ≤ p ∧ Below w2.heap.size w2 wx)
  case first =>
    have HPP : Hid (∀ W, Below w2.heap.size w2 W → Calls Try.prog 15 #[.string f, .string f] W fun e w' => e = .returned (.string r) ∧ Below W.heap.size W w' ∧ Below w2.heap.size w2 w') := Lib.hid fun W hW => (HP.out W).mono (fun e w' h => ⟨h.1, h.2, bnext hW h.2⟩)
    go_region_held3 (fun w' => Below w2.heap.size w2 w' ∧ w'.cell? ⟨B, 1, none⟩ = some (.string f) ∧ w'.cell? ⟨B, 2, none⟩ = some (.int .i64 m)) ((refine KS.out _ ?_; (repeat' (first | (refine bset ?_ (by show w2.heap.size ≤ B + 2; omega) _) | exact Below.refl _ _ | (with_reducible assumption) | (refine bnext ?_ (by with_reducible assumption)) | (refine balloc ?_ _) | (refine below_drewN ?_ _) | (refine Below.drew ?_))))) (first | (go_at_call 15; refine (HPP.out _ (by (repeat' (first | exact Below.refl _ _ | (with_reducible assumption) | (refine bnext ?_ (by with_reducible assumption)) | (refine balloc ?_ _) | (refine below_drewN ?_ _) | (refine Below.drew ?_))))).mono ?_; rintro e w3 ⟨rfl, hb3, hbb3⟩; (try (have hz3 : w3.heap[w2.heap.size]? = some (.cells #[.slice none 0 0, .string ⟨#[]⟩, .int .i64 0] 56 (0, 0)) := (hb3.block w2.heap.size (by show w2.heap.size < (w2.alloc _).heap.size; rw [World.size_alloc]; omega)).trans (heap_alloc_new w2 _); rw [hs2] at hz3; have z0 : w3.cell? ⟨B + 2, 0, none⟩ = some (.slice none 0 0) := (by simp [World.cell?, hz3]); have z1 : w3.cell? ⟨B + 2, 1, none⟩ = some (.string ⟨#[]⟩) := (by simp [World.cell?, hz3]); have z2 : w3.cell? ⟨B + 2, 2, none⟩ = some (.int .i64 0) := (by simp [World.cell?, hz3]); have y0 : w3.frozen? ⟨B + 2, 0, none⟩ = false := (by simp [World.frozen?, hz3]); have y1 : w3.frozen? ⟨B + 2, 1, none⟩ = false := (by simp [World.frozen?, hz3]); have y2 : w3.frozen? ⟨B + 2, 2, none⟩ = false := (by simp [World.frozen?, hz3])))))
    · go_wp2
      go_meet
      case rel => exact ⟨w3.heap.size, rfl, heap_alloc_new w3 _, by have := hbb3.size; omega, balloc hbb3 _⟩
    · have hz4 := heap_setCell_same _ (B + 2) 2 _ 56 (.int .i64 (m2 : Int)) (heap_setCell_same _ (B + 2) 1 _ 56 (.string r) (heap_setCell_same w3 (B + 2) 0 _ 56 (.slice none 0 0) hz3))
      go_wp2
      go_meet
      case rel => exact ⟨B + 2, rfl, hz4, Nat.le_refl _, bset (bset (bset hbb3 (by show w2.heap.size ≤ B + 2; omega) _) (by show w2.heap.size ≤ B + 2; omega) _) (by show w2.heap.size ≤ B + 2; omega) _⟩
  case rest =>
    obtain ⟨p, rfl, hp, hpB, hbx⟩ := hcut
    have hpl : p < wc.heap.size := (Array.getElem?_eq_some_iff.1 hp).1
    have hbs := hbx.size
    have HB1 : Hid (∀ V, Below (B + 2) wc V → Below w.heap.size w V ∧ V.heap[B]? = some (.cells #[.slice a n c, .string f, .int .i64 m] 56 (0, 0)) ∧ V.heap[B + 1]? = some (.cells #[.slice none 0 0, .string ⟨#[]⟩, .int .i64 0] 56 (0, 0))) := Lib.hid fun V hV => by
      rw [hs2] at hbx
      have h2 : Below (B + 2) w2 V := hbx.trans hV
      exact ⟨hb2.trans (h2.mono (by omega)), (h2.block B (by omega)).trans hx1, (h2.block (B + 1) (by omega)).trans hx2⟩
    have HBE := Lib.hid hB
    clear KS hx1 hx2 hbx hb2 HP hr hs hf hq hw hB
    go_wp2
    go_loopw [4] (fun v4 wr => ∃ (j : Nat) (v : Value), v4 = .int .i64 (2 * (j : Int)) ∧ 2 * j ≤ n + 1 ∧ wr.heap[p]? = some (.cells #[v, .string r, .int .i64 m2] 56 (0, 0)) ∧ wr.ownsRow wc.heap.size 9 1 v j ((DG.ufs f L j).map Value.string) ∧ Below (B + 2) wc wr) (fun v _ => n + 2 - (intOf v).toNat)
    case atStart => exact ⟨0, _, rfl, by omega, hp, World.ownsRow_nil _ _ _ _, Below.refl _ _⟩
    case round =>
      obtain ⟨j, v, rfl, hj, hz, hrow, hb⟩ := hrel
      obtain ⟨hbw, hx1, hx2⟩ := HB1.out wr hb
      have hbs := hb.size
      obtain ⟨va, vc, rfl⟩ := own_shape hrow
      by_cases hjn : 2 * j < n
      · have i1 : 2 * (j : Int) < (n : Int) := by omega
        have xw : IntKind.i64.wrap (2 * (j : Int) + 1) = 2 * (j : Int) + 1 := by rw [IntKind.wrap_i64]; omega
        obtain ⟨x, hx⟩ : ∃ x, L.getD (2 * j) f = x := ⟨_, rfl⟩
        obtain ⟨y, hy⟩ : ∃ y, L.getD (2 * j + 1) f = y := ⟨_, rfl⟩
        have a1 : AtIs L f (2 * (j : Int)) x := ⟨2 * j, by omega, by unfold maxLen; omega, hx⟩
        have a2 : AtIs L f (2 * (j : Int) + 1) y := ⟨2 * j + 1, by omega, by unfold maxLen; omega, hy⟩
        have sx : x.size < 2147483648 := by rw [← hx]; exact HSZ.out _
        have sy : y.size < 2147483648 := by rw [← hy]; exact HSZ.out _
        obtain ⟨z, hzz⟩ : ∃ z, DG.Pair x y = z := ⟨_, rfl⟩
        have HZ : Hid (DG.ufs f L (j + 1) = DG.ufs f L j ++ [z]) := Lib.hid (by rw [DG.ufs_succ, ← hzz, ← hx, ← hy]; rfl)
        have HPP : Hid (∀ W, Below wr.heap.size wr W → Calls Try.prog 15 #[.string x, .string y] W fun e w' => e = .returned (.string z) ∧ Below wr.heap.size wr w') := Lib.hid fun W hW => (Pair_any x y W (by omega) (by unfold maxLen; omega)).mono (fun e w' h => ⟨by rw [← hzz]; exact h.1, bnext hW h.2⟩)
        have HAA : Hid (∀ i r, AtIs L f i r → ∀ W, Below wr.heap.size wr W → Calls Try.prog 29 #[lv a n c f m, .int .i64 i] W fun e w' => e = .returned (.string r) ∧ Below wr.heap.size wr w') := Lib.hid fun i r h W hW => (HAT.out i r h W (bnext hbw hW)).mono (fun e w' h => ⟨h.1, bnext hW h.2⟩)
        have hpr : p < wr.heap.size := by omega
        have hBr : B < wr.heap.size := by omega
        have HKB : Hid (∀ V, Below wr.heap.size wr V → V.cell? ⟨B, 0, none⟩ = some (.slice a n c) ∧ V.cell? ⟨B, 1, none⟩ = some (.string f) ∧ V.cell? ⟨B, 2, none⟩ = some (.int .i64 m)) := Lib.hid fun V hV => by
          have := (hV.block B hBr).trans hx1
          exact ⟨by simp [World.cell?, this], by simp [World.cell?, this], by simp [World.cell?, this]⟩
        have HKP : Hid (∀ V, Below wr.heap.size wr V → V.cell? ⟨p, 0, none⟩ = some (.slice va j vc)) := Lib.hid fun V hV => by
          have := (hV.block p hpr).trans hz
          simp [World.cell?, this]
        have HPH : Hid (∀ V, Below wr.heap.size wr V → V.heap[p]? = some (.cells #[.slice va j vc, .string r, .int .i64 m2] 56 (0, 0))) := Lib.hid fun V hV => (hV.block p hpr).trans hz
        have hplw : p < wc.heap.size := hpl
        have hBlw : B < wc.heap.size := by omega
        have HKS : Hid (∀ V, Below wr.heap.size wr V → (V.cell? ⟨B, 0, none⟩ = some (.slice a n c) ∧ V.cell? ⟨B, 1, none⟩ = some (.string f) ∧ V.cell? ⟨B, 2, none⟩ = some (.int .i64 m)) ∧ V.cell? ⟨p, 0, none⟩ = some (.slice va j vc)) := Lib.hid fun V hV => ⟨HKB.out V hV, HKP.out V hV⟩
        have HSTEP : Hid (∀ V V', Below wr.heap.size wr V → Below wc.heap.size V V' → ((V'.cell? ⟨B, 0, none⟩ = some (.slice a n c) ∧ V'.cell? ⟨B, 1, none⟩ = some (.string f) ∧ V'.cell? ⟨B, 2, none⟩ = some (.int .i64 m)) ∧ V'.cell? ⟨p, 0, none⟩ = some (.slice va j vc)) ∧ V'.frozen? ⟨p, 0, none⟩ = false ∧ V'.heap[p]? = some (.cells #[.slice va j vc, .string r, .int .i64 m2] 56 (0, 0))) := Lib.hid fun V V' hV hV' => by
          obtain ⟨c0, c1, c2⟩ := HKB.out V hV
          have hq := (hV'.block p hplw).trans (HPH.out V hV)
          exact ⟨⟨⟨(hV'.cell (p := ⟨B, 0, none⟩) hBlw).trans c0, (hV'.cell (p := ⟨B, 1, none⟩) hBlw).trans c1, (hV'.cell (p := ⟨B, 2, none⟩) hBlw).trans c2⟩, (hV'.cell (p := ⟨p, 0, none⟩) hplw).trans (HKP.out V hV)⟩, by simp [World.frozen?, hq], hq⟩
        have HROW := Lib.hid hrow
        have HB := Lib.hid hb
        have HBW := Lib.hid hbw
        have hBp : B ≠ p := by omega
        clear hrow hb hx hy hzz HAT HSZ hbw hx2 hx1
        have cp0 := HKP.out wr (Below.refl _ _)
        obtain ⟨b0, b1, b2⟩ := HKB.out wr (Below.refl _ _)
        clear hz
        go_wp2_with fail
        refine wp_region_last #[{ dst := some 21, op := Op.fieldAddr 56 (Operand.tmp 3) 0, type := 0, pos := "digest.go:81", after := #[], guard := none }, { dst := some 22, op := Op.load 26 (Operand.tmp 21), type := 26, pos := "digest.go:81", after := #[{ on := 0, ground := Ground.data }], guard := none }, { dst := some 23, op := Op.load 56 (Operand.tmp 1), type := 56, pos := "digest.go:81", after := #[], guard := none }, { dst := some 24, op := Op.move (Operand.tmp 4), type := 3, pos := "digest.go:81", after := #[], guard := none }, { dst := some 25, op := Op.call { callee := Callee.value (Operand.func 29), args := #[Operand.tmp 23, Operand.tmp 24], argTypes := #[56, 3] }, type := 9, pos := "digest.go:81", after := #[{ on := 2, ground := Ground.data }, { on := 3, ground := Ground.data }], guard := none }, { dst := some 26, op := Op.load 56 (Operand.tmp 1), type := 56, pos := "digest.go:81", after := #[], guard := none }, { dst := some 27, op := Op.move (Operand.tmp 4), type := 3, pos := "digest.go:81", after := #[], guard := none }, { dst := some 28, op := Op.binOp BinOp.add 3 (Operand.tmp 27) (Operand.const (Value.int IntKind.i64 1)) 3, type := 3, pos := "digest.go:81", after := #[{ on := 6, ground := Ground.data }], guard := none }, { dst := some 29, op := Op.call { callee := Callee.value (Operand.func 29), args := #[Operand.tmp 26, Operand.tmp 28], argTypes := #[56, 3] }, type := 9, pos := "digest.go:81", after := #[{ on := 5, ground := Ground.data }, { on := 7, ground := Ground.data }, { on := 4, ground := Ground.chain }], guard := none }, { dst := some 30, op := Op.call { callee := Callee.value (Operand.func 15), args := #[Operand.tmp 25, Operand.tmp 29], argTypes := #[9, 9] }, type := 9, pos := "digest.go:81", after := #[{ on := 4, ground := Ground.data }, { on := 8, ground := Ground.data }, { on := 8, ground := Ground.chain }], guard := none }, { dst := some 31, op := Op.buildSlice 26 1 #[(0, Operand.tmp 30)], type := 26, pos := "digest.go:81", after := #[{ on := 9, ground := Ground.data }], guard := none }, { dst := some 32, op := Op.call { callee := Callee.builtin Builtin.append, args := #[Operand.tmp 22, Operand.tmp 31], argTypes := #[26, 26] }, type := 26, pos := "digest.go:81", after := #[{ on := 1, ground := Ground.data }, { on := 10, ground := Ground.data }, { on := 9, ground := Ground.chain }], guard := none }, { dst := some 33, op := Op.fieldAddr 56 (Operand.tmp 3) 0, type := 0, pos := "digest.go:81", after := #[{ on := 0, ground := Ground.phase }, { on := 1, ground := Ground.phase }, { on := 2, ground := Ground.phase }, { on := 3, ground := Ground.phase }, { on := 4, ground := Ground.phase }, { on := 5, ground := Ground.phase }, { on := 6, ground := Ground.phase }, { on := 7, ground := Ground.phase }, { on := 8, ground := Ground.phase }, { on := 9, ground := Ground.phase }, { on := 10, ground := Ground.phase }, { on := 11, ground := Ground.phase }], guard := none }] { dst := none, op := Op.store 26 (Operand.tmp 33) (Operand.tmp 32), type := 0, pos := "digest.go:81", after := #[{ on := 12, ground := Ground.data }, { on := 11, ground := Ground.data }, { on := 11, ground := Ground.chain }, { on := 0, ground := Ground.phase }, { on := 1, ground := Ground.phase }, { on := 2, ground := Ground.phase }, { on := 3, ground := Ground.phase }, { on := 4, ground := Ground.phase }, { on := 5, ground := Ground.phase }, { on := 6, ground := Ground.phase }, { on := 7, ground := Ground.phase }, { on := 8, ground := Ground.phase }, { on := 9, ground := Ground.phase }, { on := 10, ground := Ground.phase }, { on := 11, ground := Ground.phase }], guard := none } rfl (by kernel_rfl) (by kernel_rfl) (fun w' => (w'.cell? ⟨B, 0, none⟩ = some (.slice a n c) ∧ w'.cell? ⟨B, 1, none⟩ = some (.string f) ∧ w'.cell? ⟨B, 2, none⟩ = some (.int .i64 m)) ∧ w'.cell? ⟨p, 0, none⟩ = some (.slice va j vc)) ?_ (fun hHeld => ?_)
        · first | (refine HKS.out _ ?_; (repeat' (first | exact Below.refl _ _ | (with_reducible assumption) | (refine bnext ?_ (by with_reducible assumption)) | (refine balloc ?_ _) | (refine below_drewN ?_ _) | (refine Below.drew ?_))); done) | exact hS1
        refine wpAnyH_take (i := 0) (oi := { dst := some 21, op := Op.fieldAddr 56 (Operand.tmp 3) 0, type := 0, pos := "digest.go:81", after := #[], guard := none }) (v := ?_) rfl (by kernel_rfl) (by kernel_rfl) (by kernel_rfl) (fun _ _ _ h => h) (Or.inl ⟨by rfl, ?_⟩) (by assumption) ?_
        rotate_left
        · ((intro w hSw; (try dsimp only at hSw); go_simp); try with_reducible rfl)
        (try simp only [Act.put, List.setIfInBounds_toArray, List.set_cons_zero, List.set_cons_succ])
        refine wpAnyH_take (i := 1) (oi := { dst := some 22, op := Op.load 26 (Operand.tmp 21), type := 26, pos := "digest.go:81", after := #[{ on := 0, ground := Ground.data }], guard := none }) (v := ?_) rfl (by kernel_rfl) (by kernel_rfl) (by kernel_rfl) (fun _ _ _ h => h) (Or.inl ⟨by rfl, ?_⟩) (by assumption) ?_
        rotate_left
        · ((intro w hSw; (try dsimp only at hSw); go_simp); try with_reducible rfl)
        (try simp only [Act.put, List.setIfInBounds_toArray, List.set_cons_zero, List.set_cons_succ])
        refine wpAnyH_take (i := 2) (oi := { dst := some 23, op := Op.load 56 (Operand.tmp 1), type := 56, pos := "digest.go:81", after := #[], guard := none }) (v := ?_) rfl (by kernel_rfl) (by kernel_rfl) (by kernel_rfl) (fun _ _ _ h => h) (Or.inl ⟨by rfl, ?_⟩) (by assumption) ?_
        rotate_left
        · ((intro w hSw; (try dsimp only at hSw); go_simp); try with_reducible rfl)
        (try simp only [Act.put, List.setIfInBounds_toArray, List.set_cons_zero, List.set_cons_succ])
        refine wpAnyH_take (i := 3) (oi := { dst := some 24, op := Op.move (Operand.tmp 4), type := 3, pos := "digest.go:81", after := #[], guard := none }) (v := ?_) rfl (by kernel_rfl) (by kernel_rfl) (by kernel_rfl) (fun _ _ _ h => h) (Or.inl ⟨by rfl, ?_⟩) (by assumption) ?_
        rotate_left
        · ((intro w hSw; (try dsimp only at hSw); go_simp); try with_reducible rfl)
        (try simp only [Act.put, List.setIfInBounds_toArray, List.set_cons_zero, List.set_cons_succ])
        refine wpAnyH_take (i := 5) (oi := { dst := some 26, op := Op.load 56 (Operand.tmp 1), type := 56, pos := "digest.go:81", after := #[], guard := none }) (v := ?_) rfl (by kernel_rfl) (by kernel_rfl) (by kernel_rfl) (fun _ _ _ h => h) (Or.inl ⟨by rfl, ?_⟩) (by assumption) ?_
        rotate_left
        · ((intro w hSw; (try dsimp only at hSw); go_simp); try with_reducible rfl)
        (try simp only [Act.put, List.setIfInBounds_toArray, List.set_cons_zero, List.set_cons_succ])
        refine wpAnyH_take (i := 6) (oi := { dst := some 27, op := Op.move (Operand.tmp 4), type := 3, pos := "digest.go:81", after := #[], guard := none }) (v := ?_) rfl (by kernel_rfl) (by kernel_rfl) (by kernel_rfl) (fun _ _ _ h => h) (Or.inl ⟨by rfl, ?_⟩) (by assumption) ?_
        rotate_left
        · ((intro w hSw; (try dsimp only at hSw); go_simp); try with_reducible rfl)
        (try simp only [Act.put, List.setIfInBounds_toArray, List.set_cons_zero, List.set_cons_succ])
        refine wpAnyH_take (i := 7) (oi := { dst := some 28, op := Op.binOp BinOp.add 3 (Operand.tmp 27) (Operand.const (Value.int IntKind.i64 1)) 3, type := 3, pos := "digest.go:81", after := #[{ on := 6, ground := Ground.data }], guard := none }) (v := ?_) rfl (by kernel_rfl) (by kernel_rfl) (by kernel_rfl) (fun _ _ _ h => h) (Or.inl ⟨by rfl, ?_⟩) (by assumption) ?_
        rotate_left
        · ((intro w hSw; (try dsimp only at hSw); go_simp); try with_reducible rfl)
        (try simp only [Act.put, List.setIfInBounds_toArray, List.set_cons_zero, List.set_cons_succ])
        refine wpAnyH_ready (rs := [4]) (by kernel_rfl) (by simp) ?_
        refine AllReadyH.cons (o := { dst := some 25, op := Op.call { callee := Callee.value (Operand.func 29), args := #[Operand.tmp 23, Operand.tmp 24], argTypes := #[56, 3] }, type := 9, pos := "digest.go:81", after := #[{ on := 2, ground := Ground.data }, { on := 3, ground := Ground.data }], guard := none }) rfl (fun K hK => ?_) AllReadyH.nil
        first | (go_simp; go_at_call 29; refine (HAA.out _ _ (by with_reducible assumption) _ (by (repeat' (first | exact Below.refl _ _ | (with_reducible assumption) | (refine bnext ?_ (by with_reducible assumption)) | (refine balloc ?_ _) | (refine below_drewN ?_ _) | (refine Below.drew ?_))))).mono ?_; rintro e w3 ⟨rfl, hb3⟩; dsimp only) | (go_simp; go_at_call 15; refine (HPP.out _ (by (repeat' (first | exact Below.refl _ _ | (with_reducible assumption) | (refine bnext ?_ (by with_reducible assumption)) | (refine balloc ?_ _) | (refine below_drewN ?_ _) | (refine Below.drew ?_))))).mono ?_; rintro e w4 ⟨rfl, hb4⟩; have HROW2 := Lib.hid (own_kept HROW.out hb4); have hws4 : wr.heap.size ≤ w4.heap.size := hb4.size; dsimp only)
        refine hK.out _ _ ?_ (fun hHeld => ?_)
        · first | (refine HKS.out _ ?_; (repeat' (first | exact Below.refl _ _ | (with_reducible assumption) | (refine bnext ?_ (by with_reducible assumption)) | (refine balloc ?_ _) | (refine below_drewN ?_ _) | (refine Below.drew ?_))); done) | exact hS1
        clear hK K
        (try simp only [Act.put, List.setIfInBounds_toArray, List.set_cons_zero, List.set_cons_succ])
        refine wpAnyH_ready (rs := [8]) (by kernel_rfl) (by simp) ?_
        refine AllReadyH.cons (o := { dst := some 29, op := Op.call { callee := Callee.value (Operand.func 29), args := #[Operand.tmp 26, Operand.tmp 28], argTypes := #[56, 3] }, type := 9, pos := "digest.go:81", after := #[{ on := 5, ground := Ground.data }, { on := 7, ground := Ground.data }, { on := 4, ground := Ground.chain }], guard := none }) rfl (fun K hK => ?_) AllReadyH.nil
        first | (go_simp; go_at_call 29; refine (HAA.out _ _ (by with_reducible assumption) _ (by (repeat' (first | exact Below.refl _ _ | (with_reducible assumption) | (refine bnext ?_ (by with_reducible assumption)) | (refine balloc ?_ _) | (refine below_drewN ?_ _) | (refine Below.drew ?_))))).mono ?_; rintro e w3 ⟨rfl, hb3⟩; dsimp only) | (go_simp; go_at_call 15; refine (HPP.out _ (by (repeat' (first | exact Below.refl _ _ | (with_reducible assumption) | (refine bnext ?_ (by with_reducible assumption)) | (refine balloc ?_ _) | (refine below_drewN ?_ _) | (refine Below.drew ?_))))).mono ?_; rintro e w4 ⟨rfl, hb4⟩; have HROW2 := Lib.hid (own_kept HROW.out hb4); have hws4 : wr.heap.size ≤ w4.heap.size := hb4.size; dsimp only)
        refine hK.out _ _ ?_ (fun hHeld => ?_)
        · first | (refine HKS.out _ ?_; (repeat' (first | exact Below.refl _ _ | (with_reducible assumption) | (refine bnext ?_ (by with_reducible assumption)) | (refine balloc ?_ _) | (refine below_drewN ?_ _) | (refine Below.drew ?_))); done) | exact hS1
        clear hK K
        (try simp only [Act.put, List.setIfInBounds_toArray, List.set_cons_zero, List.set_cons_succ])
        refine wpAnyH_ready (rs := [9]) (by kernel_rfl) (by simp) ?_
        refine AllReadyH.cons (o := { dst := some 30, op := Op.call { callee := Callee.value (Operand.func 15), args := #[Operand.tmp 25, Operand.tmp 29], argTypes := #[9, 9] }, type := 9, pos := "digest.go:81", after := #[{ on := 4, ground := Ground.data }, { on := 8, ground := Ground.data }, { on := 8, ground := Ground.chain }], guard := none }) rfl (fun K hK => ?_) AllReadyH.nil
        first | (go_simp; go_at_call 29; refine (HAA.out _ _ (by with_reducible assumption) _ (by (repeat' (first | exact Below.refl _ _ | (with_reducible assumption) | (refine bnext ?_ (by with_reducible assumption)) | (refine balloc ?_ _) | (refine below_drewN ?_ _) | (refine Below.drew ?_))))).mono ?_; rintro e w3 ⟨rfl, hb3⟩; dsimp only) | (go_simp; go_at_call 15; refine (HPP.out _ (by (repeat' (first | exact Below.refl _ _ | (with_reducible assumption) | (refine bnext ?_ (by with_reducible assumption)) | (refine balloc ?_ _) | (refine below_drewN ?_ _) | (refine Below.drew ?_))))).mono ?_; rintro e w4 ⟨rfl, hb4⟩; have HROW2 := Lib.hid (own_kept HROW.out hb4); have hws4 : wr.heap.size ≤ w4.heap.size := hb4.size; dsimp only)
        refine hK.out _ _ ?_ (fun hHeld => ?_)
        · first | (refine HKS.out _ ?_; (repeat' (first | exact Below.refl _ _ | (with_reducible assumption) | (refine bnext ?_ (by with_reducible assumption)) | (refine balloc ?_ _) | (refine below_drewN ?_ _) | (refine Below.drew ?_))); done) | exact hS1
        clear hK K
        (try simp only [Act.put, List.setIfInBounds_toArray, List.set_cons_zero, List.set_cons_succ])
        refine wpAnyH_ready (rs := [10]) (by kernel_rfl) (by simp) ?_
        refine AllReadyH.cons (o := { dst := some 31, op := Op.buildSlice 26 1 #[(0, Operand.tmp 30)], type := 26, pos := "digest.go:81", after := #[{ on := 9, ground := Ground.data }], guard := none }) rfl (fun K hK => ?_) AllReadyH.nil
        go_simp
        refine hK.out _ _ ?_ (fun hHeld => ?_)
        · first | (refine HKS.out _ ?_; (repeat' (first | exact Below.refl _ _ | (with_reducible assumption) | (refine bnext ?_ (by with_reducible assumption)) | (refine balloc ?_ _) | (refine below_drewN ?_ _) | (refine Below.drew ?_))); done) | exact hS1
        clear hK K
        (try simp only [Act.put, List.setIfInBounds_toArray, List.set_cons_zero, List.set_cons_succ])
        refine wpAnyH_ready (rs := [11]) (by kernel_rfl) (by simp) ?_
        refine AllReadyH.cons (o := { dst := some 32, op := Op.call { callee := Callee.builtin Builtin.append, args := #[Operand.tmp 22, Operand.tmp 31], argTypes := #[26, 26] }, type := 26, pos := "digest.go:81", after := #[{ on := 1, ground := Ground.data }, { on := 10, ground := Ground.data }, { on := 9, ground := Ground.chain }], guard := none }) rfl (fun K hK => ?_) AllReadyH.nil
        (refine step_append_lies _ (by rfl) _ _ _ (by rfl) wc.heap.size 9 i0 _ 1 16 Try.underlying26 hi hz0 hz1 hz2 rfl (by omega) (.slice va j vc) _ _ (by rfl) (HROW2.out.alloc _) ⟨w4.heap.size, 0, none⟩ 1 1 [.string z] (by rfl) (by rfl) (World.news_of_block (cs := #[.string z]) (t := 9) (fr := (0, 0)) (heap_alloc_new w4 _)) (by simp [Value.oneCell']) (by omega) (by unfold maxLen; omega) (by omega) (by simp; omega) (w4.heap.size + 1) (by simp) ?_; intro gg cap' w1 hown1 hgrow hat hlt; have hBq : Below wc.heap.size w4 w1 := (((Below.refl wc.heap.size w4).alloc (by omega) _).grown hgrow (by simp; omega) (fun j hj => (HROW2.out.lt j hj).1)); obtain ⟨hS1, pf1, hP1⟩ := HSTEP.out _ _ hb4 hBq)
        refine hK.out _ _ ?_ (fun hHeld => ?_)
        · first | (refine HKS.out _ ?_; (repeat' (first | exact Below.refl _ _ | (with_reducible assumption) | (refine bnext ?_ (by with_reducible assumption)) | (refine balloc ?_ _) | (refine below_drewN ?_ _) | (refine Below.drew ?_))); done) | exact hS1
        clear hK K
        (try simp only [Act.put, List.setIfInBounds_toArray, List.set_cons_zero, List.set_cons_succ])
        refine wpAnyH_take (i := 12) (oi := { dst := some 33, op := Op.fieldAddr 56 (Operand.tmp 3) 0, type := 0, pos := "digest.go:81", after := #[{ on := 0, ground := Ground.phase }, { on := 1, ground := Ground.phase }, { on := 2, ground := Ground.phase }, { on := 3, ground := Ground.phase }, { on := 4, ground := Ground.phase }, { on := 5, ground := Ground.phase }, { on := 6, ground := Ground.phase }, { on := 7, ground := Ground.phase }, { on := 8, ground := Ground.phase }, { on := 9, ground := Ground.phase }, { on := 10, ground := Ground.phase }, { on := 11, ground := Ground.phase }], guard := none }) (v := ?_) rfl (by kernel_rfl) (by kernel_rfl) (by kernel_rfl) (fun _ _ _ h => h) (Or.inl ⟨by rfl, ?_⟩) (by assumption) ?_
        rotate_left
        · ((intro w hSw; (try dsimp only at hSw); go_simp); try with_reducible rfl)
        (try simp only [Act.put, List.setIfInBounds_toArray, List.set_cons_zero, List.set_cons_succ])
        refine wpAnyH_done (by kernel_rfl) ?_ _
        show Oper.wp _ _ _ _ _ _
        have hz1 := heap_setCell_same w1 p 0 _ 56 (.slice (some ⟨gg, 0, none⟩) (j + 1) cap') hP1
        have HOWN := Lib.hid (own_setcell (i := 0) hown1 (show p < wc.heap.size from hplw) (.slice (some ⟨gg, 0, none⟩) (j + 1) cap'))
        have HBB : Hid (Below (B + 2) wc (w1.setCell ⟨p, 0, none⟩ (.slice (some ⟨gg, 0, none⟩) (j + 1) cap'))) := Lib.hid (((HB.out.trans (hb4.mono (by omega))).trans (hBq.mono (by omega))).setCell (p := ⟨p, 0, none⟩) (show B + 2 ≤ p by omega) _)
        have HZ1 := Lib.hid hz1
        clear hz1 hown1 hgrow hat hlt hBq
        go_simp
        go_wp2
        go_roundw
        case rel => exact ⟨j + 1, _, by go_num, by omega, HZ1.out, by rw [HZ.out, List.map_append]; exact HOWN.out, HBB.out⟩
        case measure => simp [intOf]; omega
      · have hje : j = (n + 1) / 2 := by omega
        have i1 : ¬ 2 * (j : Int) < (n : Int) := by omega
        have q0 : wr.cell? ⟨B, 0, none⟩ = some (.slice a n c) := by simp [World.cell?, hx1]
        have q1 : wr.cell? ⟨p, 0, none⟩ = some (.slice va j vc) := by simp [World.cell?, hz]
        have q2 : wr.cell? ⟨p, 1, none⟩ = some (.string r) := by simp [World.cell?, hz]
        have q3 : wr.cell? ⟨p, 2, none⟩ = some (.int .i64 m2) := by simp [World.cell?, hz]
        have y0 : wr.cell? ⟨B + 1, 0, none⟩ = some (.slice none 0 0) := by simp [World.cell?, hx2]
        have y1 : wr.cell? ⟨B + 1, 1, none⟩ = some (.string ⟨#[]⟩) := by simp [World.cell?, hx2]
        have y2 : wr.cell? ⟨B + 1, 2, none⟩ = some (.int .i64 0) := by simp [World.cell?, hx2]
        have z0 : wr.frozen? ⟨B + 1, 0, none⟩ = false := by simp [World.frozen?, hx2]
        have z1 : wr.frozen? ⟨B + 1, 1, none⟩ = false := by simp [World.frozen?, hx2]
        have z2 : wr.frozen? ⟨B + 1, 2, none⟩ = false := by simp [World.frozen?, hx2]
        have hZ := heap_setCell_same _ (B + 1) 2 _ 56 (.int .i64 (m2 : Int)) (heap_setCell_same _ (B + 1) 1 _ 56 (.string r) (heap_setCell_same wr (B + 1) 0 _ 56 (.slice va j vc) hx2))
        have HZZ := Lib.hid hZ
        have HROW := Lib.hid hrow
        have HBW := Lib.hid hbw
        have HJE := Lib.hid hje
        clear hx1 hx2 hz hrow hb hbw hZ hje
        have hBw : B + 1 < wc.heap.size := by omega
        have HOW := Lib.hid (own_setcell (i := 2) (own_setcell (i := 1) (own_setcell (i := 0) HROW.out hBw (.slice va j vc)) hBw (.string r)) hBw (.int .i64 (m2 : Int)))
        go_wp2
        refine bodyPost_ret (v := .agg #[.slice va j vc, .string r, .int .i64 m2]) (results_cell_row Try.results35 _ _ (B + 1) 56 _ (0, 0) _ rfl HZZ.out Try.underlying56 rfl (by kernel_rfl)) rfl ?_
        have hjj := HJE.out
        subst hjj
        refine ⟨va, vc, rfl, own_src HOW.out (by rw [List.length_map, DG.ufs_len]), fun g o e => ?_, ?_⟩
        · subst e
          have := (HOW.out.lt g rfl).1
          have := HBE.out
          omega
        have hB1 : w.heap.size ≤ B + 1 := by rw [HBE.out]; omega
        exact ((HBW.out.setCell hB1 _).setCell hB1 _).setCell hB1 _
end Go.Proofs.Ytfikbcgadpbblaa
