/- Texts merged: DigPlain, DigHash, DigSum, DigOf, DigNode. No conditions. -/
import Derived.Test.YtinkhgmdeldniaaApp
import Derived.Laws.OwnMore
import Derived.RangeFuncBox
import Derived.Laws.CopyOwn
/- Plain facts: digests. No conditions. -/
section
namespace Go.Proofs.Ytinkhgmdeldniaa.DG
set_option linter.unusedVariables false
open Go.RowKit
def S (l : List UInt8) : ByteArray := ⟨l.toArray⟩
theorem S_size (l : List UInt8) : (S l).size = l.length := by simp [S, ByteArray.size]
theorem S_of (s : ByteArray) : S s.data.toList = s := by apply ByteArray.ext; simp [S]
theorem S_toList (l : List UInt8) : (S l).data.toList = l := by simp [S]
theorem S_append (a b : List UInt8) : S a ++ S b = S (a ++ b) := by apply ByteArray.ext; simp [S]
theorem S_inj {a b : List UInt8} (h : S a = S b) : a = b := by rw [← S_toList a, h, S_toList]
def fx (x : Nat) (c : UInt8) : Nat := (1000003 * x + c.toNat + 1) % 2147483647
def fy (y : Nat) (c : UInt8) : Nat := (69069 * y + c.toNat + 1) % 2147483629
def X (l : List UInt8) : Nat := l.foldl fx 7
def Y (l : List UInt8) : Nat := l.foldl fy 11
theorem fold_lt {f : Nat → UInt8 → Nat} {m : Nat} (hf : ∀ a c, f a c < m) : ∀ (l : List UInt8) (a : Nat), a < m → l.foldl f a < m
  | [], a, h => h
  | c :: l, a, h => fold_lt hf l _ (hf a c)
theorem X_lt (l : List UInt8) : X l < 2147483647 := fold_lt (fun _ _ => Nat.mod_lt _ (by decide)) l 7 (by decide)
theorem Y_lt (l : List UInt8) : Y l < 2147483629 := fold_lt (fun _ _ => Nat.mod_lt _ (by decide)) l 11 (by decide)
theorem X_snoc (l : List UInt8) (c : UInt8) : X (l ++ [c]) = fx (X l) c := by unfold X; rw [List.foldl_append]; rfl
theorem Y_snoc (l : List UInt8) (c : UInt8) : Y (l ++ [c]) = fy (Y l) c := by unfold Y; rw [List.foldl_append]; rfl
def b4 (n : Nat) : List UInt8 := [UInt8.ofNat (n / 16777216), UInt8.ofNat (n / 65536), UInt8.ofNat (n / 256), UInt8.ofNat n]
def dig (l : List UInt8) : List UInt8 := b4 (X l) ++ b4 (Y l)
theorem dig_length (l : List UInt8) : (dig l).length = 8 := rfl
/-- The digest of a string. -/
def Of (s : ByteArray) : ByteArray := S (dig s.data.toList)
theorem Of_size (s : ByteArray) : (Of s).size = 8 := by unfold Of; rw [S_size, dig_length]
/-- A digest as an array. -/
def sumV (l : List UInt8) : Value := .agg ((dig l).map fun b => Value.int .u8 (b.toNat : Int)).toArray
def pairL (a b : ByteArray) : List UInt8 := 1 :: b4 a.size ++ (a.data.toList ++ b.data.toList)
/-- The node of two strings. -/
def Pair (a b : ByteArray) : ByteArray := S (dig (pairL a b))
theorem Pair_size (a b : ByteArray) : (Pair a b).size = 8 := by unfold Pair; rw [S_size, dig_length]
def rootL (h : Nat) (top : ByteArray) : List UInt8 := [2, UInt8.ofNat h] ++ top.data.toList
theorem byte_of (x : Nat) : ((UInt8.ofNat x).toNat : Int) = (x : Int) % 256 := by simp
theorem push_all : ∀ (l : List UInt8) (r : ByteArray), (l.map fun b => (b.toNat : Int)).foldl (fun r n => r.push (UInt8.ofNat n.toNat)) r = ⟨r.data ++ l.toArray⟩
  | [], r => by apply ByteArray.ext; simp
  | b :: l, r => by
    rw [List.map_cons, List.foldl_cons, push_all l]
    apply ByteArray.ext
    simp [ByteArray.push]
end Go.Proofs.Ytinkhgmdeldniaa.DG
namespace Go.Proofs.Ytinkhgmdeldniaa
open Go.RowKit
/-- Bytes that lie in a block, as a string. -/
theorem conv_bytes (W : World) (g n c : Nat) (l : List UInt8) (hn : n = l.length) (h : ∀ j u, (l.map fun b => Value.int .u8 (b.toNat : Int))[j]? = some u → W.cell? ((⟨g, 0, none⟩ : Addr).add j) = some u) : Sem.run Try.prog (convert 51 9 (.slice (some ⟨g, 0, none⟩) n c)) W = .ok (.string (DG.S l)) W := by
  subst hn
  have e : (l.map fun b => Value.int .u8 (b.toNat : Int)) = (l.map fun b => (b.toNat : Int)).map (Value.int .u8) := by rw [List.map_map]; rfl
  have hl := run_loadCells_list (P := Try.prog) W ⟨g, 0, none⟩ ((l.map fun b => (b.toNat : Int)).map (Value.int .u8)) (by rw [← e]; exact h)
  rw [List.length_map, List.length_map] at hl
  rw [run_convert_bytes_string (P := Try.prog) W 51 9 5 _ _ _ Try.underlying51 Try.underlying5 Try.underlying9, run_bytesToString W ⟨g, 0, none⟩ l.length c _ hl, DG.push_all]
  congr 2
  apply ByteArray.ext
  simp [DG.S]
theorem conv_lit (W : World) (l : List UInt8) (n c : Nat) (T : TypeId) (hn : n = l.length) : Sem.run Try.prog (convert 51 9 (.slice (some ⟨W.heap.size, 0, none⟩) n c)) (W.alloc (.cells (l.map fun b => Value.int .u8 (b.toNat : Int)).toArray T)) = .ok (.string (DG.S l)) (W.alloc (.cells (l.map fun b => Value.int .u8 (b.toNat : Int)).toArray T)) := by
  refine conv_bytes _ _ _ _ l hn (fun j u hj => ?_)
  rw [Addr.add_lit]
  have := heap_alloc_new W (.cells (l.map fun b => Value.int .u8 (b.toNat : Int)).toArray T)
  simp only [World.cell?, this]
  simpa using hj
end Go.Proofs.Ytinkhgmdeldniaa
end
/- The contracts of digest.hasher and of the two functions that it hands back. -/
section
namespace Go.Proofs.Ytinkhgmdeldniaa
set_option linter.unusedVariables false
open Go.RowKit
/-- The two sums lie in these blocks. -/
def Hs (bx bY x y : Nat) (w : World) : Prop := w.heap[bx]? = some (.cells #[.int .u64 (x : Int)] 70 (0, 0)) ∧ w.heap[bY]? = some (.cells #[.int .u64 (y : Int)] 70 (0, 0)) ∧ bx ≠ bY
theorem Hs.out {bx bY x y : Nat} {w : World} (h : Hs bx bY x y w) : w.heap[bx]? = some (.cells #[.int .u64 (x : Int)] 70 (0, 0)) ∧ w.heap[bY]? = some (.cells #[.int .u64 (y : Int)] 70 (0, 0)) ∧ bx ≠ bY := h
theorem Hs.keep {bx bY x y : Nat} {w w' : World} (h : Hs bx bY x y w) (hb : Below w.heap.size w w') : Hs bx bY x y w' :=
  ⟨(hb.block bx (Array.getElem?_eq_some_iff.1 h.1).1).trans h.1, (hb.block bY (Array.getElem?_eq_some_iff.1 h.2.1).1).trans h.2.1, h.2.2⟩
theorem one_at {X : World} {B : Nat} {a : Value} {t : TypeId} (h : X.heap[B]? = some (.cells #[a] t (0, 0))) : X.cell? ⟨B, 0, none⟩ = some a := by
  simp [World.cell?, h]
theorem one_free {X : World} {B : Nat} {a : Value} {t : TypeId} (h : X.heap[B]? = some (.cells #[a] t (0, 0))) : X.frozen? ⟨B, 0, none⟩ = false := by
  simp [World.frozen?, h]
theorem set_one {X : World} {B : Nat} {a : Value} {t : TypeId} (u : Value) (h : X.heap[B]? = some (.cells #[a] t (0, 0))) : (X.setCell ⟨B, 0, none⟩ u).heap[B]? = some (.cells #[u] t (0, 0)) := by
  simp [World.setCell, Array.getElem?_modify, h]
theorem Hs.set {bx bY x y : Nat} {w : World} (h : Hs bx bY x y w) (x' y' : Nat) : Hs bx bY x' y' ((w.setCell ⟨bx, 0, none⟩ (.int .u64 (x' : Int))).setCell ⟨bY, 0, none⟩ (.int .u64 (y' : Int))) := by
  obtain ⟨h1, h2, h3⟩ := h
  have a1 := set_one (.int .u64 (x' : Int)) h1
  have a2 : (w.setCell ⟨bx, 0, none⟩ (.int .u64 (x' : Int))).heap[bY]? = _ := (Below.heap_setCell w ⟨bx, 0, none⟩ _ bY (fun e => h3 e.symm)).trans h2
  exact ⟨(Below.heap_setCell _ ⟨bY, 0, none⟩ _ bx h3).trans a1, set_one _ a2, h3⟩
set_option maxRecDepth 100000 in
set_option maxHeartbeats 1000000 in
theorem take_any (bx bY x y : Nat) (c : UInt8) (w : World) (h : Hs bx bY x y w) (hx : x < 2147483647) (hy : y < 2147483629) :
    Calls Try.prog 89 #[.int .u8 (c.toNat : Int), .pointer (some ⟨bx, 0, none⟩), .pointer (some ⟨bY, 0, none⟩)] w fun e w' => e = .returned (.tuple #[]) ∧ w' = (w.setCell ⟨bx, 0, none⟩ (.int .u64 (DG.fx x c : Int))).setCell ⟨bY, 0, none⟩ (.int .u64 (DG.fy y c : Int)) := by
  have c0 := one_at h.1
  have f0 := one_free h.1
  have c1 := one_at h.2.1
  have f1 := one_free h.2.1
  have hne := h.2.2
  have hc := c.toNat_lt
  obtain ⟨n, hn⟩ : ∃ n, c.toNat = n := ⟨_, rfl⟩
  have hX : DG.fx x c = (1000003 * x + n + 1) % 2147483647 := by unfold DG.fx; rw [hn]
  have hY : DG.fy y c = (69069 * y + n + 1) % 2147483629 := by unfold DG.fy; rw [hn]
  rw [hn] at hc ⊢
  rw [hX, hY]
  obtain ⟨X, hX2⟩ : ∃ X, (1000003 * x + n + 1) % 2147483647 = X := ⟨_, rfl⟩
  obtain ⟨Y, hY2⟩ : ∃ Y, (69069 * y + n + 1) % 2147483629 = Y := ⟨_, rfl⟩
  rw [hX2, hY2]
  have x0 : (1000003 : Int) * (x : Int) ≤ 2147490089486351 := by omega
  have y0 : (69069 : Int) * (y : Int) ≤ 148324546702332 := by omega
  have x1 : ((1000003 : Int) * (x : Int) + (n : Int) + 1) % 2147483647 = (X : Int) := by omega
  have y1 : ((69069 : Int) * (y : Int) + (n : Int) + 1) % 2147483629 = (Y : Int) := by omega
  have x2 : ((1000003 : Int) * (x : Int) + (n : Int) + 1).tmod 2147483647 = (X : Int) := by rw [Int.tmod_eq_emod_of_nonneg (by omega)]; exact x1
  have y2 : ((69069 : Int) * (y : Int) + (n : Int) + 1).tmod 2147483629 = (Y : Int) := by rw [Int.tmod_eq_emod_of_nonneg (by omega)]; exact y1
  have c1' : (w.setCell ⟨bx, 0, none⟩ (.int .u64 (X : Int))).cell? ⟨bY, 0, none⟩ = some (.int .u64 (y : Int)) := one_at ((Below.heap_setCell w ⟨bx, 0, none⟩ _ bY (fun e => hne e.symm)).trans h.2.1)
  have f1' : (w.setCell ⟨bx, 0, none⟩ (.int .u64 (X : Int))).frozen? ⟨bY, 0, none⟩ = false := one_free ((Below.heap_setCell w ⟨bx, 0, none⟩ _ bY (fun e => hne e.symm)).trans h.2.1)
  clear hX hY hX2 hY2 hn h
  go_enter Try.func89, Try.ntmps89
  go_wp2
  go_end0

  exact ⟨rfl, rfl⟩
end Go.Proofs.Ytinkhgmdeldniaa
end
/- The contracts of digest.hasher and of the function that hands the digest out. -/
section
namespace Go.Proofs.Ytinkhgmdeldniaa
set_option linter.unusedVariables false
open Go.RowKit
abbrev takeF (bx bY : Nat) : Value := .func (.func 89) #[] #[.pointer (some ⟨bx, 0, none⟩), .pointer (some ⟨bY, 0, none⟩)]
abbrev sumF (bx bY : Nat) : Value := .func (.func 90) #[] #[.pointer (some ⟨bx, 0, none⟩), .pointer (some ⟨bY, 0, none⟩)]
set_option maxRecDepth 100000 in
set_option maxHeartbeats 1000000 in
theorem hasher_any (w : World) : Calls Try.prog 86 #[] w fun e w' => ∃ bx bY, e = .returned (.tuple #[takeF bx bY, sumF bx bY]) ∧ Hs bx bY 7 11 w' ∧ w.heap.size ≤ bx ∧ w.heap.size ≤ bY ∧ Below w.heap.size w w' := by
  go_enter Try.func86, Try.ntmps86
  go_wp2
  refine bodyPost_ret (results_tmp2 Try.results86 _ _ _) rfl ?_
  refine ⟨w.heap.size, w.heap.size + 1, rfl, ⟨?_, ?_, by omega⟩, Nat.le_refl _, by omega, balloc (balloc (Below.refl _ _) _) _⟩
  · exact ((Below.refl _ (w.alloc _)).alloc (Nat.le_refl _) _ |>.block _ (by rw [World.size_alloc]; omega)).trans (heap_alloc_new w _)
  · have := heap_alloc_new (w.alloc (.cells #[.int .u64 7] 70)) (.cells #[.int .u64 11] 70)
    rwa [World.size_alloc] at this
set_option maxRecDepth 100000 in
set_option maxHeartbeats 1000000 in
theorem sum_any (bx bY : Nat) (l : List UInt8) (w : World) (h : Hs bx bY (DG.X l) (DG.Y l) w) :
    Calls Try.prog 90 #[.pointer (some ⟨bx, 0, none⟩), .pointer (some ⟨bY, 0, none⟩)] w fun e w' => e = .returned (DG.sumV l) ∧ Below w.heap.size w w' := by
  obtain ⟨x, hx⟩ : ∃ x, DG.X l = x := ⟨_, rfl⟩
  obtain ⟨y, hy⟩ : ∃ y, DG.Y l = y := ⟨_, rfl⟩
  have hxl := DG.X_lt l
  have hyl := DG.Y_lt l
  rw [hx] at hxl h
  rw [hy] at hyl h
  have c0 := one_at h.1
  have f0 := one_free h.1
  have c1 := one_at h.2.1
  have f1 := one_free h.2.1
  have l0 : bx < w.heap.size := (Array.getElem?_eq_some_iff.1 h.1).1
  have l1 : bY < w.heap.size := (Array.getElem?_eq_some_iff.1 h.2.1).1
  have n0 : ¬ bx = w.heap.size := by omega
  have n1 : ¬ bY = w.heap.size := by omega
  clear h
  have HV : Hid (DG.sumV l = .agg #[.int .u8 (x / 16777216), .int .u8 (x / 65536 % 256), .int .u8 (x / 256 % 256), .int .u8 (x % 256), .int .u8 (y / 16777216), .int .u8 (y / 65536 % 256), .int .u8 (y / 256 % 256), .int .u8 (y % 256)]) := Lib.hid (by
    unfold DG.sumV DG.dig DG.b4
    rw [hx, hy]
    have e0 : (x : Int) / 16777216 % 256 = x / 16777216 := by omega
    have e1 : (y : Int) / 16777216 % 256 = y / 16777216 := by omega
    simp [e0, e1])
  clear hx hy
  go_enter Try.func90, Try.ntmps90
  go_wp2
  refine bodyPost_ret (results_cell_row Try.results90 _ _ w.heap.size 86 _ (0, 0) _ rfl (heap_alloc_new w _) Try.underlying86 rfl (by kernel_rfl)) rfl ?_
  exact ⟨by rw [HV.out], balloc (Below.refl _ _) _⟩
end Go.Proofs.Ytinkhgmdeldniaa
end
/- The contract of digest.of. -/
section
namespace Go.Proofs.Ytinkhgmdeldniaa.DG
def cat (l : List ByteArray) : List UInt8 := (l.map fun s => s.data.toList).flatten
theorem cat_take {l : List ByteArray} {k : Nat} (h : k < l.length) : cat (l.take (k + 1)) = cat (l.take k) ++ l[k].data.toList := by
  unfold cat
  rw [List.take_add_one, List.map_append, List.flatten_append, List.getElem?_eq_getElem h]
  congr 1
  simp
theorem take_snoc (s : ByteArray) {j : Nat} (h : j < s.size) : s.data.toList.take (j + 1) = s.data.toList.take j ++ [s[j]] := by
  have h' : j < s.data.toList.length := by simpa using h
  rw [List.take_add_one, List.getElem?_eq_getElem h']
  simp [ByteArray.getElem_eq_getElem_data]
def sumA (l : List UInt8) : Array Value := ((dig l).map fun b => Value.int .u8 (b.toNat : Int)).toArray
theorem sumV_eq (l : List UInt8) : sumV l = .agg (sumA l) := rfl
theorem sumA_size (l : List UInt8) : (sumA l).size = 8 := by simp [sumA, dig_length]
theorem sumA_one (l : List UInt8) : (sumA l).all (·.oneCell') = true := by simp [sumA, Value.oneCell']
end Go.Proofs.Ytinkhgmdeldniaa.DG
namespace Go.Proofs.Ytinkhgmdeldniaa
set_option linter.unusedVariables false
open Go.RowKit
theorem store_all (P : Program) (w : World) (g : Nat) (t : TypeId) (old C : Array Value) (hg : w.heap[g]? = some (.cells old t (0, 0))) (ho : old.size = C.size) (h1 : C.all (·.oneCell') = true) :
    (storeCells ⟨g, 0, none⟩ C.toList).run P w = .ok () (w.setRow g C) := by
  have := run_storeCells_from (P := P) g t C.toList 0 old w hg (by simp; omega) (fun v hv => (Array.all_eq_true_iff_forall_mem.1 h1) v (by simpa using hv))
  simpa using this
set_option maxRecDepth 100000 in
set_option maxHeartbeats 4000000 in
theorem of_any (a : Option Addr) (c : Nat) (ss : List ByteArray) (w : World) (hr : RowAt w (.slice a ss.length c) (ss.map Value.string)) (hn : ss.length ≤ maxLen) (hs : ∀ s ∈ ss, s.size ≤ maxLen) :
    Calls Try.prog 81 #[.slice a ss.length c] w fun e w' => e = .returned (DG.sumV (DG.cat ss)) ∧ Below w.heap.size w w' := by
  have HR : Hid (∀ wr, Below w.heap.size w wr → ∀ k, ∀ hk : k < ss.length, ∃ g o, a = some ⟨g, o, none⟩ ∧ g < wr.heap.size ∧ wr.cell? ⟨g, o + k, none⟩ = some (.string ss[k])) := Lib.hid (fun wr hb k hk => by
    have := (hr.keep hb).cell (a := a) (k := k) (by simpa using hk)
    simpa using this)
  have HS := Lib.hid hs
  unfold maxLen at hn
  clear hr hs
  go_enter Try.func81, Try.ntmps81
  go_wp2_with (first | (go_at_call 86; refine (hasher_any _).mono ?_; rintro e w1 ⟨bx, bY, rfl, hH, hbx, hbY, hb1⟩))
  obtain ⟨w0, hw0⟩ : ∃ w0, w.alloc (.cells #[.int .u8 0, .int .u8 0, .int .u8 0, .int .u8 0, .int .u8 0, .int .u8 0, .int .u8 0, .int .u8 0] 86) = w0 := ⟨_, rfl⟩
  have hz0 : w0.heap[w.heap.size]? = some (.cells #[.int .u8 0, .int .u8 0, .int .u8 0, .int .u8 0, .int .u8 0, .int .u8 0, .int .u8 0, .int .u8 0] 86 (0, 0)) := by rw [← hw0]; exact heap_alloc_new w _
  have hb0 : Below w.heap.size w w0 := by rw [← hw0]; exact balloc (Below.refl _ _) _
  rw [hw0] at hbx hbY hb1
  have HB : Hid (∀ wr, Below w0.heap.size w0 wr → Below w.heap.size w wr) := Lib.hid fun wr h => bnext hb0 h
  have HK : Hid (∀ wr wk B u, Below w0.heap.size w0 wr → (B = bx ∨ B = bY) → wk = wr.setCell ⟨B, 0, none⟩ u → Below w0.heap.size w0 wk) := Lib.hid fun wr wk B u h hB e => by
    subst e
    exact bset h (by rcases hB with rfl | rfl <;> assumption) u
  clear hb0 hw0 hbx hbY
  go_loopw [14] (fun v wr => ∃ k : Nat, k ≤ ss.length ∧ v = .int .i64 k ∧ Hs bx bY (DG.X (DG.cat (ss.take k))) (DG.Y (DG.cat (ss.take k))) wr ∧ Below w0.heap.size w0 wr) (fun i _ => ss.length - (intOf i).toNat)
  case atStart => exact ⟨0, Nat.zero_le _, rfl, by simpa [DG.cat, DG.X, DG.Y] using hH, hb1⟩
  case round =>
    clear hH hb1
    obtain ⟨k, hk, rfl, hH, hb⟩ := hrel
    by_cases hkl : k < ss.length
    · have hki : (k : Int) < (ss.length : Int) := by omega
      obtain ⟨g, o, ha, hg, hc⟩ := HR.out _ (HB.out _ hb) k hkl
      obtain ⟨s, hs⟩ : ∃ s, ss[k] = s := ⟨_, rfl⟩
      rw [hs] at hc
      have hsz : s.size ≤ maxLen := HS.out s (by rw [← hs]; exact List.getElem_mem _)
      unfold maxLen at hsz
      have HT : Hid (DG.cat (ss.take (k + 1)) = DG.cat (ss.take k) ++ s.data.toList) := Lib.hid (by rw [← hs]; exact DG.cat_take hkl)
      obtain ⟨pre, hpre⟩ : ∃ pre, DG.cat (ss.take k) = pre := ⟨_, rfl⟩
      rw [hpre] at HT hH
      clear hs hpre
      subst ha
      go_wp2
      go_loopw [20] (fun v wi => ∃ j : Nat, j ≤ s.size ∧ v = .int .i64 j ∧ Hs bx bY (DG.X (pre ++ s.data.toList.take j)) (DG.Y (pre ++ s.data.toList.take j)) wi ∧ Below w0.heap.size w0 wi) (fun v _ => s.size - (intOf v).toNat)
      case atStart => exact ⟨0, Nat.zero_le _, rfl, by simpa using hH, hb⟩
      case round =>
        clear hH hb hc hg
        obtain ⟨j, hj, rfl, hH, hb⟩ := hrel
        by_cases hjl : j < s.size
        · have hji : (j : Int) < (s.size : Int) := by omega
          have HN : Hid (Hs bx bY (DG.X (pre ++ s.data.toList.take (j + 1))) (DG.Y (pre ++ s.data.toList.take (j + 1))) ((wr.setCell ⟨bx, 0, none⟩ (.int .u64 (DG.fx (DG.X (pre ++ s.data.toList.take j)) s[j] : Int))).setCell ⟨bY, 0, none⟩ (.int .u64 (DG.fy (DG.Y (pre ++ s.data.toList.take j)) s[j] : Int)))) := Lib.hid (by
            have := hH.set (DG.fx (DG.X (pre ++ s.data.toList.take j)) s[j]) (DG.fy (DG.Y (pre ++ s.data.toList.take j)) s[j])
            rw [DG.take_snoc s hjl, ← List.append_assoc, DG.X_snoc, DG.Y_snoc]
            exact this)
          have hX := DG.X_lt (pre ++ s.data.toList.take j)
          have hY := DG.Y_lt (pre ++ s.data.toList.take j)
          generalize DG.X (pre ++ s.data.toList.take j) = x at *
          generalize DG.Y (pre ++ s.data.toList.take j) = y at *
          go_wp2_with (first | (go_at_call 89; refine (take_any bx bY x y s[j] _ hH hX hY).mono ?_; rintro e w2 ⟨rfl, rfl⟩))
          case roundEnd => exact ⟨⟨j + 1, hjl, by go_num, HN.out, HK.out _ _ bY _ (HK.out _ _ bx _ hb (.inl rfl) rfl) (.inr rfl) rfl⟩, by simp [intOf]; omega⟩
        · have hje : j = s.size := by omega
          subst hje
          have hji : ¬ (s.size : Int) < (s.size : Int) := by omega
          have hfu : s.data.toList.take s.size = s.data.toList := List.take_of_length_le (by rw [Array.length_toList]; exact Nat.le_refl _)
          rw [hfu, ← HT.out] at hH
          clear hfu
          go_wp2
          case roundEnd => exact ⟨⟨k + 1, hkl, by go_num, hH, hb⟩, by simp [intOf]; omega⟩
    · have hke : k = ss.length := by omega
      subst hke
      have hki : ¬ (ss.length : Int) < (ss.length : Int) := by omega
      rw [List.take_length] at hH
      have hz := (hb.block _ (Array.getElem?_eq_some_iff.1 hz0).1).trans hz0
      have HL : Hid (w.heap.size < wr.heap.size) := Lib.hid (Array.getElem?_eq_some_iff.1 hz).1
      have HZ := Lib.hid hz
      clear hz hz0
      obtain ⟨C, hC⟩ : ∃ C, DG.sumV (DG.cat ss) = .agg C := ⟨_, DG.sumV_eq _⟩
      have hC1 : C.size = 8 := by have := DG.sumA_size (DG.cat ss); rw [DG.sumV_eq] at hC; injection hC with e; rw [← e]; exact this
      have hC2 : C.all (·.oneCell') = true := by have := DG.sumA_one (DG.cat ss); rw [DG.sumV_eq] at hC; injection hC with e; rw [← e]; exact this
      have HI : Hid ((Try.prog.info? 86).map (·.size) = some C.size) := Lib.hid (by rw [hC1]; kernel_rfl)
      have HC := Lib.hid (And.intro hC1 hC2)
      have HCC := Lib.hid hC
      clear hC hC1 hC2
      go_wp2_with (first | (go_at_call 90; refine (sum_any bx bY (DG.cat ss) _ hH).mono ?_; rintro e w2 ⟨rfl, hb2⟩; rw [HCC.out]; have hz2 := (hb2.block _ HL.out).trans HZ.out; have hcs := HC.out.1; have hst := store_all Try.prog w2 w.heap.size 86 _ C hz2 (by rw [HC.out.1]; rfl) HC.out.2))
      refine bodyPost_ret (results_cell_row Try.results81 _ _ w.heap.size 86 _ (0, 0) _ rfl (setRow_heap _ _ _ _ _ _ hz2) Try.underlying86 rfl HI.out) rfl ?_
      exact ⟨by rw [HCC.out], below_setRow (bnext (HB.out _ hb) hb2) (Nat.le_refl _) _⟩
end Go.Proofs.Ytinkhgmdeldniaa
end
/- The contracts of digest.Of, of the nodes and of the root. -/
section
namespace Go.Proofs.Ytinkhgmdeldniaa
set_option linter.unusedVariables false
open Go.RowKit
set_option maxRecDepth 100000 in
set_option maxHeartbeats 1000000 in
theorem text_any (l : List UInt8) (w : World) : Calls Try.prog 67 #[DG.sumV l] w fun e w' => e = .returned (.string (DG.S (DG.dig l))) ∧ Below w.heap.size w w' := by
  have hcv := conv_lit w (DG.dig l) 8 8 86 rfl
  rw [DG.sumV_eq]
  have hs := DG.sumA_size l
  have h1 := DG.sumA_one l
  have HI : (Try.prog.info? 86).map (·.size) = some (DG.sumA l).size := by rw [hs]; kernel_rfl
  unfold DG.sumA at *
  generalize DG.S (DG.dig l) = r at *
  generalize ((DG.dig l).map fun b => Value.int .u8 (b.toNat : Int)).toArray = C at *
  go_enter Try.func67, Try.ntmps67
  go_wp2
  go_ret
  exact ⟨rfl, balloc (Below.refl _ _) _⟩
set_option maxRecDepth 100000 in
set_option maxHeartbeats 1000000 in
theorem Of_any (s : ByteArray) (w : World) (hs : s.size ≤ maxLen) : Calls Try.prog 71 #[.string s] w fun e w' => e = .returned (.string (DG.Of s)) ∧ Below w.heap.size w w' := by
  have HR : Hid (RowAt (w.alloc (.cells #[.string s] 9)) (.slice (some ⟨w.heap.size, 0, none⟩) [s].length 1) ([s].map Value.string)) := Lib.hid ⟨_, _, rfl, .inr ⟨_, _, rfl, by rw [World.size_alloc]; omega, fun i hi => by
    have : i = 0 := by simp at hi; omega
    subst this
    rw [World.cell?_alloc_at _ _ _ _ rfl]
    rfl⟩⟩
  have HS : Hid (∀ x ∈ [s], x.size ≤ maxLen) := Lib.hid (by simpa using hs)
  have HC : Hid (DG.S (DG.dig (DG.cat [s])) = DG.Of s) := Lib.hid (by simp [DG.cat, DG.Of])
  clear hs
  go_enter Try.func71, Try.ntmps71
  go_wp2_with (first | (go_at_call 81; refine (of_any _ 1 [s] _ HR.out (by simp [maxLen]) HS.out).mono ?_; rintro e w1 ⟨rfl, hb1⟩) | (go_at_call 67; refine (text_any _ _).mono ?_; rintro e w2 ⟨rfl, hb2⟩))
  go_ret
  exact ⟨by rw [HC.out]; rfl, bnext (bnext (balloc (Below.refl _ _) _) hb1) hb2⟩
set_option maxRecDepth 100000 in
set_option maxHeartbeats 1000000 in
theorem Pair_any (a b : ByteArray) (w : World) (ha : a.size < 4294967296) (hb : b.size ≤ maxLen) : Calls Try.prog 74 #[.string a, .string b] w fun e w' => e = .returned (.string (DG.Pair a b)) ∧ Below w.heap.size w w' := by
  obtain ⟨n, hn⟩ : ∃ n, a.size = n := ⟨_, rfl⟩
  have hcv := conv_lit w (1 :: DG.b4 n) 5 5 5 rfl
  have e : ((1 :: DG.b4 n).map fun b => Value.int .u8 (b.toNat : Int)).toArray = #[.int .u8 1, .int .u8 (n / 16777216), .int .u8 (n / 65536 % 256), .int .u8 (n / 256 % 256), .int .u8 (n % 256)] := by
    have e0 : (n : Int) / 16777216 % 256 = n / 16777216 := by omega
    simp [DG.b4, e0]
  rw [e] at hcv
  obtain ⟨h, hh⟩ : ∃ h, DG.S (1 :: DG.b4 n) = h := ⟨_, rfl⟩
  rw [hh] at hcv
  have HC : Hid (DG.S (DG.dig (DG.cat [h, a, b])) = DG.Pair a b) := Lib.hid (by rw [← hh]; simp [DG.cat, DG.Pair, DG.pairL, DG.S_toList, hn])
  have HS : Hid (∀ x ∈ [h, a, b], x.size ≤ maxLen) := Lib.hid (by
    have : h.size = 5 := by rw [← hh, DG.S_size]; rfl
    intro x hx
    simp at hx
    rcases hx with rfl | rfl | rfl
    · rw [this]; simp [maxLen]
    · unfold maxLen; omega
    · exact hb)
  have HR : Hid (∀ o : Obj, RowAt ((w.alloc o).alloc (.cells #[.string h, .string a, .string b] 9)) (.slice (some ⟨w.heap.size + 1, 0, none⟩) [h, a, b].length 3) ([h, a, b].map Value.string)) := Lib.hid fun o => ⟨_, _, rfl, .inr ⟨_, _, rfl, by rw [World.size_alloc, World.size_alloc]; omega, fun i hi => by
    rw [World.cell?_alloc_at _ _ _ _ (by rw [World.size_alloc])]
    simp only [List.map_cons, List.map_nil, List.length_cons, List.length_nil] at hi
    match i, hi with
    | 0, _ => rfl
    | 1, _ => rfl
    | 2, _ => rfl⟩⟩
  have hm : n ≤ maxLen := by unfold maxLen; omega
  clear hh e hb
  rw [hn] at ha
  go_enter Try.func74, Try.ntmps74
  go_wp2_with (first | (go_at_call 81; refine (of_any _ 3 [h, a, b] _ (HR.out _) (by simp [maxLen]) HS.out).mono ?_; rintro e w1 ⟨rfl, hb1⟩) | (go_at_call 67; refine (text_any _ _).mono ?_; rintro e w2 ⟨rfl, hb2⟩))
  go_ret
  exact ⟨by rw [HC.out]; rfl, bnext (bnext (balloc (balloc (Below.refl _ _) _) _) hb1) hb2⟩
set_option maxRecDepth 100000 in
set_option maxHeartbeats 1000000 in
theorem root_any (k : Nat) (b : ByteArray) (w : World) (ha : k < 256) (hb : b.size ≤ maxLen) : Calls Try.prog 66 #[.int .i64 k, .string b] w fun e w' => e = .returned (DG.sumV (DG.rootL k b)) ∧ Below w.heap.size w w' := by
  have HKK : Hid (DG.dig (DG.rootL k b) = DG.dig (DG.cat [DG.S [2, UInt8.ofNat k], b])) := Lib.hid (by simp [DG.cat, DG.rootL, DG.S_toList])
  have hcv := conv_lit (w.alloc (.cells #[.int .u8 0, .int .u8 0, .int .u8 0, .int .u8 0, .int .u8 0, .int .u8 0, .int .u8 0, .int .u8 0] 86)) [2, UInt8.ofNat k] 2 2 5 rfl
  have e : (([2, UInt8.ofNat k] : List UInt8).map fun b => Value.int .u8 (b.toNat : Int)).toArray = #[.int .u8 2, .int .u8 k] := by
    have e0 : (k : Int) % 256 = k := by omega
    simp [e0]
  rw [e, World.size_alloc] at hcv
  obtain ⟨h, hh⟩ : ∃ h, DG.S [2, UInt8.ofNat k] = h := ⟨_, rfl⟩
  rw [hh] at hcv HKK
  have HS : Hid (∀ x ∈ [h, b], x.size ≤ maxLen) := Lib.hid (by
    have : h.size = 2 := by rw [← hh, DG.S_size]; rfl
    intro x hx
    simp at hx
    rcases hx with rfl | rfl
    · rw [this]; simp [maxLen]
    · exact hb)
  have HR : Hid (∀ o o' : Obj, RowAt (((w.alloc o).alloc o').alloc (.cells #[.string h, .string b] 9)) (.slice (some ⟨w.heap.size + 1 + 1, 0, none⟩) [h, b].length 2) ([h, b].map Value.string)) := Lib.hid fun o o' => ⟨_, _, rfl, .inr ⟨_, _, rfl, by rw [World.size_alloc, World.size_alloc, World.size_alloc]; omega, fun i hi => by
    rw [World.cell?_alloc_at _ _ _ _ (by rw [World.size_alloc, World.size_alloc])]
    simp only [List.map_cons, List.map_nil, List.length_cons, List.length_nil] at hi
    match i, hi with
    | 0, _ => rfl
    | 1, _ => rfl⟩⟩
  have HZ : Hid (∀ o o' : Obj, ((w.alloc (.cells #[.int .u8 0, .int .u8 0, .int .u8 0, .int .u8 0, .int .u8 0, .int .u8 0, .int .u8 0, .int .u8 0] 86)).alloc o |>.alloc o').heap[w.heap.size]? = some (.cells #[.int .u8 0, .int .u8 0, .int .u8 0, .int .u8 0, .int .u8 0, .int .u8 0, .int .u8 0, .int .u8 0] 86 (0, 0))) := Lib.hid fun o o' => by
    have h0 := heap_alloc_new w (.cells #[.int .u8 0, .int .u8 0, .int .u8 0, .int .u8 0, .int .u8 0, .int .u8 0, .int .u8 0, .int .u8 0] 86)
    exact ((balloc (balloc (Below.refl _ _) _) _).block _ (by rw [World.size_alloc]; omega)).trans h0
  obtain ⟨C, hC⟩ : ∃ C, DG.sumV (DG.cat [h, b]) = .agg C := ⟨_, DG.sumV_eq _⟩
  have hC1 : C.size = 8 := by have := DG.sumA_size (DG.cat [h, b]); rw [DG.sumV_eq] at hC; injection hC with e; rw [← e]; exact this
  have hC2 : C.all (·.oneCell') = true := by have := DG.sumA_one (DG.cat [h, b]); rw [DG.sumV_eq] at hC; injection hC with e; rw [← e]; exact this
  have HI : Hid ((Try.prog.info? 86).map (·.size) = some C.size) := Lib.hid (by rw [hC1]; kernel_rfl)
  have HC := Lib.hid (And.intro hC1 hC2)
  have HCC := Lib.hid hC
  clear hC hC1 hC2 e hh hb
  have hki : (k : Int) < 256 := by omega
  go_enter Try.func66, Try.ntmps66
  go_wp2_with (first | (go_at_call 81; refine (of_any _ 2 [h, b] _ (HR.out _ _) (by simp [maxLen]) HS.out).mono ?_; rintro e w2 ⟨rfl, hb2⟩; rw [HCC.out]; have hz2 := (hb2.block _ (by simp only [World.size_alloc]; omega)).trans (HZ.out _ _); have hcs := HC.out.1; have hst := store_all Try.prog w2 w.heap.size 86 _ C hz2 (by rw [HC.out.1]; rfl) HC.out.2))
  refine bodyPost_ret (results_cell_row Try.results66 _ _ w.heap.size 86 _ (0, 0) _ rfl (setRow_heap _ _ _ _ _ _ hz2) Try.underlying86 rfl HI.out) rfl ?_
  exact ⟨by rw [← HCC.out]; unfold DG.sumV; rw [HKK.out], below_setRow (bnext (balloc (balloc (balloc (Below.refl _ _) _) _) _) hb2) (Nat.le_refl _) _⟩
end Go.Proofs.Ytinkhgmdeldniaa
end
