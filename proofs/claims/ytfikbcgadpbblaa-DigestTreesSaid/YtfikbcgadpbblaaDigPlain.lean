/- Plain facts: digests. No conditions. -/
import Derived.Test.YtfikbcgadpbblaaApp
namespace Go.Proofs.Ytfikbcgadpbblaa.DG
set_option linter.unusedVariables false
open Go.RowKit
def S (l : List UInt8) : ByteArray := ⟨l.toArray⟩
theorem S_size (l : List UInt8) : (S l).size = l.length := by simp [S, ByteArray.size]
theorem S_of (s : ByteArray) : S s.data.toList = s := by apply ByteArray.ext; simp [S]
theorem S_toList (l : List UInt8) : (S l).data.toList = l := by simp [S]
theorem S_append (a b : List UInt8) : S a ++ S b = S (a ++ b) := by apply ByteArray.ext; simp [S]
theorem S_inj {a b : List UInt8} (h : S a = S b) : a = b := by rw [← S_toList a, h, S_toList]
def fx (x : Nat) (c : UInt8) : Nat := (1000003 * x + c.toNat + 1) % 2147483647
def fy (y : Nat) (c : UInt8) : Nat := (69069 * y + c.toNat + 1) % 2147483629
def X (l : List UInt8) : Nat := l.foldl fx 7
def Y (l : List UInt8) : Nat := l.foldl fy 11
theorem fold_lt {f : Nat → UInt8 → Nat} {m : Nat} (hf : ∀ a c, f a c < m) : ∀ (l : List UInt8) (a : Nat), a < m → l.foldl f a < m
  | [], a, h => h
  | c :: l, a, h => fold_lt hf l _ (hf a c)
theorem X_lt (l : List UInt8) : X l < 2147483647 := fold_lt (fun _ _ => Nat.mod_lt _ (by decide)) l 7 (by decide)
theorem Y_lt (l : List UInt8) : Y l < 2147483629 := fold_lt (fun _ _ => Nat.mod_lt _ (by decide)) l 11 (by decide)
theorem X_snoc (l : List UInt8) (c : UInt8) : X (l ++ [c]) = fx (X l) c := by unfold X; rw [List.foldl_append]; rfl
theorem Y_snoc (l : List UInt8) (c : UInt8) : Y (l ++ [c]) = fy (Y l) c := by unfold Y; rw [List.foldl_append]; rfl
def b4 (n : Nat) : List UInt8 := [UInt8.ofNat (n / 16777216), UInt8.ofNat (n / 65536), UInt8.ofNat (n / 256), UInt8.ofNat n]
def dig (l : List UInt8) : List UInt8 := b4 (X l) ++ b4 (Y l)
theorem dig_length (l : List UInt8) : (dig l).length = 8 := rfl
/-- The digest of a string. -/
def Of (s : ByteArray) : ByteArray := S (dig s.data.toList)
theorem Of_size (s : ByteArray) : (Of s).size = 8 := by unfold Of; rw [S_size, dig_length]
/-- A digest as an array. -/
def sumV (l : List UInt8) : Value := .agg ((dig l).map fun b => Value.int .u8 (b.toNat : Int)).toArray
def pairL (a b : ByteArray) : List UInt8 := 1 :: b4 a.size ++ (a.data.toList ++ b.data.toList)
/-- The node of two strings. -/
def Pair (a b : ByteArray) : ByteArray := S (dig (pairL a b))
theorem Pair_size (a b : ByteArray) : (Pair a b).size = 8 := by unfold Pair; rw [S_size, dig_length]
def rootL (h : Nat) (top : ByteArray) : List UInt8 := [2, UInt8.ofNat h] ++ top.data.toList
theorem byte_of (x : Nat) : ((UInt8.ofNat x).toNat : Int) = (x : Int) % 256 := by simp
theorem push_all : ∀ (l : List UInt8) (r : ByteArray), (l.map fun b => (b.toNat : Int)).foldl (fun r n => r.push (UInt8.ofNat n.toNat)) r = ⟨r.data ++ l.toArray⟩
  | [], r => by apply ByteArray.ext; simp
  | b :: l, r => by
    rw [List.map_cons, List.foldl_cons, push_all l]
    apply ByteArray.ext
    simp [ByteArray.push]
end Go.Proofs.Ytfikbcgadpbblaa.DG
namespace Go.Proofs.Ytfikbcgadpbblaa
open Go.RowKit
/-- Bytes that lie in a block, as a string. -/
theorem conv_bytes (W : World) (g n c : Nat) (l : List UInt8) (hn : n = l.length) (h : ∀ j u, (l.map fun b => Value.int .u8 (b.toNat : Int))[j]? = some u → W.cell? ((⟨g, 0, none⟩ : Addr).add j) = some u) : Sem.run Try.prog (convert 40 9 (.slice (some ⟨g, 0, none⟩) n c)) W = .ok (.string (DG.S l)) W := by
  subst hn
  have e : (l.map fun b => Value.int .u8 (b.toNat : Int)) = (l.map fun b => (b.toNat : Int)).map (Value.int .u8) := by rw [List.map_map]; rfl
  have hl := run_loadCells_list (P := Try.prog) W ⟨g, 0, none⟩ ((l.map fun b => (b.toNat : Int)).map (Value.int .u8)) (by rw [← e]; exact h)
  rw [List.length_map, List.length_map] at hl
  rw [run_convert_bytes_string (P := Try.prog) W 40 9 5 _ _ _ Try.underlying40 Try.underlying5 Try.underlying9, run_bytesToString W ⟨g, 0, none⟩ l.length c _ hl, DG.push_all]
  congr 2
  apply ByteArray.ext
  simp [DG.S]
theorem conv_lit (W : World) (l : List UInt8) (n c : Nat) (T : TypeId) (hn : n = l.length) : Sem.run Try.prog (convert 40 9 (.slice (some ⟨W.heap.size, 0, none⟩) n c)) (W.alloc (.cells (l.map fun b => Value.int .u8 (b.toNat : Int)).toArray T)) = .ok (.string (DG.S l)) (W.alloc (.cells (l.map fun b => Value.int .u8 (b.toNat : Int)).toArray T)) := by
  refine conv_bytes _ _ _ _ l hn (fun j u hj => ?_)
  rw [Addr.add_lit]
  have := heap_alloc_new W (.cells (l.map fun b => Value.int .u8 (b.toNat : Int)).toArray T)
  simp only [World.cell?, this]
  simpa using hj
end Go.Proofs.Ytfikbcgadpbblaa
