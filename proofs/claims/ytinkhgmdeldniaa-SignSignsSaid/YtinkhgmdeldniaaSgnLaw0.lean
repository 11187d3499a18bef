/- Texts merged: FixPlain, SgnLaw0. No conditions. -/
import Derived.WalkKit
import Derived.Test.YtinkhgmdeldniaaSgnSane
/- Plain arithmetic of rounding and of scalars: no program in sight. No conditions. -/
section
namespace Go.Proofs.Ytinkhgmdeldniaa.FP

/-- n / d rounded to the nearest number, of two to the greater one. -/
def rnd (n d : Int) : Int := if d - n % d ≤ n % d then n / d + 1 else n / d
/-- n / d rounded up. -/
def upw (n d : Int) : Int := if 0 < n % d then n / d + 1 else n / d

theorem parts_of (n d q r : Int) (hd : 1 ≤ d) (h : r + d * q = n) (h0 : 0 ≤ r) (h1 : r < d) : n / d = q ∧ n % d = r :=
  (Int.ediv_emod_unique (by omega)).2 ⟨h, h0, h1⟩

theorem tparts (n d : Int) (hn : n < 0) (_hd : 1 ≤ d) : n.tdiv d = -((-n) / d) ∧ n.tmod d = -((-n) % d) := by
  have e : n = -(-n) := by omega
  constructor
  · rw [e, Int.neg_tdiv, Int.tdiv_eq_ediv_of_nonneg (by omega)]; simp
  · rw [e, Int.neg_tmod, Int.tmod_eq_emod_of_nonneg (by omega)]; simp

/-- Go's quotient and remainder of a negative number, against those that are rounded down. -/
theorem neg_zero (n d : Int) (hn : n < 0) (hd : 1 ≤ d) (h : n.tmod d = 0) : n / d = n.tdiv d ∧ n % d = 0 := by
  obtain ⟨a, b⟩ := tparts n d hn hd
  have hm := Int.mul_ediv_add_emod (-n) d
  refine parts_of n d _ _ hd ?_ (by omega) (by omega)
  rw [a, Int.mul_neg]; omega

theorem neg_less (n d : Int) (hn : n < 0) (hd : 1 ≤ d) (h : n.tmod d < 0) : n / d = n.tdiv d - 1 ∧ n % d = n.tmod d + d := by
  obtain ⟨a, b⟩ := tparts n d hn hd
  have hm := Int.mul_ediv_add_emod (-n) d
  have hl := Int.emod_lt_of_pos (-n) (show 0 < d by omega)
  refine parts_of n d _ _ hd ?_ (by omega) (by omega)
  rw [a, b, Int.mul_sub, Int.mul_neg]; omega

theorem tmod_bd (n d : Int) (hd : 1 ≤ d) : -d < n.tmod d ∧ n.tmod d < d ∧ (n < 0 → n.tmod d ≤ 0) ∧ (0 ≤ n → 0 ≤ n.tmod d) := by
  by_cases hn : n < 0
  · obtain ⟨_, b⟩ := tparts n d hn hd
    have hl := Int.emod_lt_of_pos (-n) (show 0 < d by omega)
    have hg := Int.emod_nonneg (-n) (show d ≠ 0 by omega)
    omega
  · have e : n.tmod d = n % d := Int.tmod_eq_emod_of_nonneg (by omega)
    have hl := Int.emod_lt_of_pos n (show 0 < d by omega)
    have hg := Int.emod_nonneg n (show d ≠ 0 by omega)
    omega

theorem tdiv_bd (n d : Int) (hd : 1 ≤ d) (h0 : -9223372036854775808 ≤ n) (h1 : n ≤ 9223372036854775807) : -9223372036854775808 ≤ n.tdiv d ∧ n.tdiv d ≤ 9223372036854775807 ∧ (n < 0 → n.tmod d < 0 → -9223372036854775808 < n.tdiv d) := by
  by_cases hn : n < 0
  · obtain ⟨a, b⟩ := tparts n d hn hd
    have q0 : 0 ≤ (-n) / d := Int.ediv_nonneg (by omega) (by omega)
    have q1 : (-n) / d ≤ -n := Int.ediv_le_self _ (by omega)
    refine ⟨by omega, by omega, fun _ hr => ?_⟩
    have d2 : 2 ≤ d := by
      by_cases d1 : d = 1
      · subst d1; rw [b] at hr; have := Int.emod_one (-n); omega
      · omega
    have hm := Int.mul_ediv_add_emod (-n) d
    have h2 : 2 * ((-n) / d) ≤ d * ((-n) / d) := Int.mul_le_mul_of_nonneg_right d2 q0
    have hg := Int.emod_nonneg (-n) (show d ≠ 0 by omega)
    omega
  · have e : n.tdiv d = n / d := Int.tdiv_eq_ediv_of_nonneg (by omega)
    have q0 : 0 ≤ n / d := Int.ediv_nonneg (by omega) (by omega)
    have q1 : n / d ≤ n := Int.ediv_le_self _ (by omega)
    omega
end Go.Proofs.Ytinkhgmdeldniaa.FP
end
/- What the laws of layer 4 share: the cut, the numbers of keys, the remainder. No conditions. -/
section
namespace Go.Proofs.Ytinkhgmdeldniaa
set_option maxRecDepth 100000
set_option linter.unusedVariables false
open Go.RowKit
namespace FP
theorem modt (n m : Int) (hm : 1 ≤ m) : (n.tmod m + m) % m = n % m ∧ 0 ≤ n.tmod m + m := by
  obtain ⟨t1, t2, t3, t4⟩ := tmod_bd n m hm
  refine ⟨?_, by omega⟩
  by_cases hn : n < 0
  · by_cases ht : n.tmod m < 0
    · obtain ⟨e, f⟩ := neg_less n m hn hm ht
      rw [f, Int.emod_eq_of_lt (by omega) (by omega)]
    · obtain ⟨e, f⟩ := neg_zero n m hn hm (by have := t3 hn; omega)
      have : n.tmod m = 0 := by have := t3 hn; omega
      rw [f, this]; simp
  · have e : n.tmod m = n % m := Int.tmod_eq_emod_of_nonneg (by omega)
    rw [e, Int.add_emod_right, Int.emod_emod]
end FP
/-- The remainder that is not negative. -/
theorem mod_any (n m : Int) (w : World) (h0 : 1 ≤ m) (h1 : m ≤ 4611686018427387904) :
    Calls Try.prog 12 #[.int .i64 n, .int .i64 m] w fun e w' => e = .returned (.int .i64 (n % m)) ∧ w' = w := by
  obtain ⟨t1, t2, t3, t4⟩ := FP.tmod_bd n m h0
  obtain ⟨e1, e2⟩ := FP.modt n m h0
  have E : Hid ((n.tmod m + m) % m = n % m) := e1
  have r1 := Int.emod_lt_of_pos n (show 0 < m by omega)
  have r0 := Int.emod_nonneg n (show m ≠ 0 by omega)
  clear t3 t4 e1
  by_cases hn : 0 ≤ n
  · have E' : (n % m + m) % m = n % m := by rw [Int.add_emod_right, Int.emod_emod]
    go_enter Try.func12, Try.ntmps12
    go_wp2
    go_ret
    exact ⟨ret1 E', rfl⟩
  · go_enter Try.func12, Try.ntmps12
    go_wp2
    go_ret
    exact ⟨ret1 (by have := E.out; rw [Int.add_emod_right] at this; exact this), rfl⟩


def _root_.Go.Proofs.Ytinkhgmdeldniaa.SG.cut (s : ByteArray) : ByteArray := s.extract 0 (min s.size 200)
theorem cut_size (s : ByteArray) : (SG.cut s).size ≤ 200 := by unfold SG.cut; rw [ByteArray.size_extract]; omega
theorem short_any (s : ByteArray) (w : World) (hs : s.size ≤ maxLen) : Calls Try.prog 11 #[.string s] w fun e w' => e = .returned (.string (SG.cut s)) ∧ Below w.heap.size w w' := by
  unfold maxLen at hs
  by_cases h : s.size ≤ 200
  · have hi : (s.size : Int) ≤ 200 := by omega
    have e0 : min (s.size : Int) 200 = (s.size : Int) := by omega
    have HC : Hid (s = SG.cut s) := Lib.hid (by
      unfold SG.cut
      rw [show min s.size 200 = s.size by omega]
      simp)
    go_enter Try.func11, Try.ntmps11
    go_wp2
    go_ret
    refine ⟨?_, Below.refl _ _⟩
    exact rets HC.out
  · have hi : 200 ≤ (s.size : Int) := by omega
    have e0 : min (s.size : Int) 200 = 200 := by omega
    have HC : Hid (s.extract 0 200 = SG.cut s) := Lib.hid (by unfold SG.cut; congr 1; omega)
    go_enter Try.func11, Try.ntmps11
    go_wp2
    go_ret
    refine ⟨?_, Below.refl _ _⟩
    rw [← HC.out]
    rfl
namespace SG
theorem prf_eight (seed : ByteArray) (n i k : Nat) : ∀ s ∈ DG.prf (leaves seed n) i k, s.size ≤ 8 := by
  intro s hs
  unfold DG.prf at hs
  obtain ⟨j, _, rfl⟩ := List.mem_map.1 hs
  obtain ⟨h1, h2⟩ := lvl_le (L := leaves seed n) (fun s hs => by
    unfold leaves at hs
    obtain ⟨i, _, rfl⟩ := List.mem_map.1 hs
    unfold leaf
    rw [DG.Of_size]; omega) j
  unfold DG.nbr
  rw [List.getD_eq_getElem?_getD]
  cases hc : (DG.lvl (leaves seed n) j).1[DG.beside (i / 2 ^ j)]? with
  | none => simp only [Option.getD_none]; omega
  | some s =>
    have := h1 s (List.mem_of_getElem? hc)
    simp only [Option.getD_some]; omega
theorem tight {l : List ByteArray} (hs : ∀ s ∈ l, s.size ≤ 8) : (txs l).size ≤ 10 + l.length * 18 := by
  unfold txs
  rw [W.WP.S_size]
  unfold W.WP.texts
  have h1 := W.WP.flat_len W.WP.text 18 (l.map (·.data.toList)) (fun x hx => by
    obtain ⟨s, h, rfl⟩ := List.mem_map.1 hx
    have := W.WP.text_len s.data.toList
    have h2 := hs s h
    have h3 : s.data.toList.length = s.size := Array.length_toList
    omega)
  have h2 := W.WP.int_len (l.map (·.data.toList)).length
  rw [List.length_append]
  rw [List.length_map] at h1
  omega
end SG
/-- The number of keys, and one of them. -/
theorem some_at (x y : Int) (w : World) (hx : (Lit.int .u8 x).wf = true) (hy : (Lit.int .u8 y).wf = true) : Calls Try.prog 17 #[.int .u8 x, .int .u8 y] w fun e w' => e = .returned (.tuple #[.int .i64 (1 + x % 5), .int .i64 (y % (1 + x % 5))]) ∧ Below w.heap.size w w' := by
  have bx := bd8 hx
  have by' := bd8 hy
  have t1 : x.tmod 5 = x % 5 := Int.tmod_eq_emod_of_nonneg (by omega)
  have t2 : y.tmod (1 + x % 5) = y % (1 + x % 5) := Int.tmod_eq_emod_of_nonneg (by omega)
  have hne : (1 + x % 5) ≠ 0 := by omega
  go_enter Try.func17, Try.ntmps17
  go_wp2
  go_quiet (fail)
  go_wp2
  go_ret2
  exact ⟨rfl, by exact below_drewN (Below.refl _ _) _⟩
theorem some_all (x y : Int) (hx : (Lit.int .u8 x).wf = true) (hy : (Lit.int .u8 y).wf = true) : ∃ n i : Nat, 1 ≤ n ∧ n ≤ 5 ∧ i < n ∧ ∀ V, Calls Try.prog 17 #[.int .u8 x, .int .u8 y] V fun e w' => e = .returned (.tuple #[.int .i64 (n : Int), .int .i64 (i : Int)]) ∧ Below V.heap.size V w' := by
  have bx := bd8 hx
  have by' := bd8 hy
  have e1 := Int.emod_nonneg y (show (1 + x % 5) ≠ 0 by omega)
  have e2 := Int.emod_lt_of_pos y (show (0 : Int) < 1 + x % 5 by omega)
  have n1 : ((1 + x % 5).toNat : Int) = 1 + x % 5 := by omega
  have i1 : ((y % (1 + x % 5)).toNat : Int) = y % (1 + x % 5) := by omega
  refine ⟨(1 + x % 5).toNat, (y % (1 + x % 5)).toNat, by omega, by omega, by omega, fun V => ?_⟩
  rw [n1, i1]
  exact some_at x y V hx hy
theorem _root_.Go.Proofs.Ytinkhgmdeldniaa.W.RAt.other' {b c : Nat} {r : W.WP.RS} {w w' : World} (h : W.RAt b r w) (k : W.Kept c w w') (hne : b ≠ c) : W.RAt b r w' := ⟨(k.block b h.lt (fun e => by simp at e; omega)).trans h.1, h.2⟩
def MR (n m r : Int) : Prop := n % m = r
theorem mod_c {n m r : Int} (hr : MR n m r) (h0 : 1 ≤ m) (h1 : m ≤ 4611686018427387904) (w : World) : Calls Try.prog 12 #[.int .i64 n, .int .i64 m] w fun e w' => e = .returned (.int .i64 r) ∧ w' = w := by
  have := mod_any n m w h0 h1
  rwa [hr] at this
theorem box_two (w : World) (x y : Int) : ∀ V, Below (w.alloc (.cells #[.int .u8 x, .int .u8 y] 34)).heap.size (w.alloc (.cells #[.int .u8 x, .int .u8 y] 34)) V → V.cell? ⟨w.heap.size, 0, none⟩ = some (.int .u8 x) ∧ V.cell? ⟨w.heap.size, 1, none⟩ = some (.int .u8 y) := fun V hV => by
  have h1 := (hV.block w.heap.size (by simp)).trans (World.alloc_heap_new w _)
  constructor <;> simp [World.cell?, h1]
theorem box_twoi (w : World) (x y : Int) : ∀ V, Below (w.alloc (.cells #[.int .i64 x, .int .i64 y] 30)).heap.size (w.alloc (.cells #[.int .i64 x, .int .i64 y] 30)) V → V.cell? ⟨w.heap.size, 0, none⟩ = some (.int .i64 x) ∧ V.cell? ⟨w.heap.size, 1, none⟩ = some (.int .i64 y) := fun V hV => by
  have h1 := (hV.block w.heap.size (by simp)).trans (World.alloc_heap_new w _)
  constructor <;> simp [World.cell?, h1]
namespace SG
theorem sign_size (seed msg : ByteArray) {n i : Nat} (h : 1 ≤ n ∧ n ≤ 16) (hi : i < n) : (sign seed (n : Int) (i : Int) msg).1.size ≤ 1000000 := by
  rw [sign_good h hi]
  show (parts _ _ _).size ≤ _
  have h1 := tight (l := lns seed (i : Int) msg 18) (fun s hs => by rw [lns_small seed (i : Int) msg 18 s hs]; omega)
  have h2 := tight (l := DG.prf (leaves seed n) i (hOf n)) (prf_eight seed n i (hOf n))
  rw [lns_len] at h1
  rw [DG.prf_len] at h2
  have := (hOf_is h.2).le20 (by omega)
  have h3 := W.WP.int_size (i : Int)
  unfold parts
  rw [ByteArray.size_append, ByteArray.size_append]
  omega
/-- What is read of a signature, step by step. -/
theorem sign_reads (seed msg : ByteArray) {n i : Nat} (h : 1 ≤ n ∧ n ≤ 16) (hi : i < n) : ∃ (s : List UInt8) (a b : Nat), sign seed (n : Int) (i : Int) msg = (W.WP.S s, 0) ∧ s.length ≤ 1000000 ∧ (⟨s, 0, false⟩ : W.WP.RS).int = ((i : Int), ⟨s, a, false⟩) ∧ (⟨s, a, false⟩ : W.WP.RS).texts = ((lns seed (i : Int) msg 18).map (·.data.toList), ⟨s, b, false⟩) ∧ (⟨s, b, false⟩ : W.WP.RS).texts = ((DG.prf (leaves seed n) i (hOf n)).map (·.data.toList), ⟨s, s.length, false⟩) ∧ s = (sign seed (n : Int) (i : Int) msg).1.data.toList := by
  have hz := sign_size seed msg h hi
  rw [sign_good h hi] at hz ⊢
  obtain ⟨a, b, e1, e2, e3⟩ := parts_reads (i := (i : Int)) (L := lns seed (i : Int) msg 18) (P := DG.prf (leaves seed n) i (hOf n)) rfl (by omega) (by omega) (lns_big seed _ msg) (prf_big seed n i _) (by rw [lns_len]; omega) (by rw [DG.prf_len]; have := (hOf_is h.2).le20 (by omega); omega)
  exact ⟨_, a, b, by rw [W.WP.S_of], by rw [Array.length_toList]; exact hz, e1, e2, e3, rfl⟩
end SG
end Go.Proofs.Ytinkhgmdeldniaa
end
