/- The contract of Made: a short text. -/
import Derived.Test.YtnikddmcphcmeaaDoorCluRefD
namespace Go.Proofs.YtnikddmcphcmeaaDoor
set_option linter.unusedVariables false
open Go.RowKit Go.Shelf
theorem i64_and65535 (n : Int) : bits .and .i64 n 65535 = n % 65536 := by
  have h127 : (BitVec.ofInt 64 65535).toNat = 2 ^ 16 - 1 := by decide
  have key : (BitVec.ofInt 64 n &&& BitVec.ofInt 64 65535).toNat = (n % ((2 ^ 64 : Nat) : Int)).toNat % 2 ^ 16 := by
    rw [BitVec.toNat_and, BitVec.toNat_ofInt, h127, Nat.and_two_pow_sub_one_eq_mod]
  show IntKind.i64.wrap ((BitVec.ofInt 64 n &&& BitVec.ofInt 64 65535).toNat : Nat) = n % 65536
  rw [key, IntKind.wrap_i64]
  omega
theorem one_cell {X : World} {B : Nat} {a : Value} {t : TypeId} (h : X.heap[B]? = some (.cells #[a] t (0, 0))) : X.cell? ⟨B, 0, none⟩ = some a := by
  simp [World.cell?, h]
theorem conv_one (W : World) (b : Int) : Sem.run Tryd.prog (convert 40 9 (.slice (some ⟨W.heap.size, 0, none⟩) 1 1)) (W.alloc (.cells #[.int .u8 b] 5)) = .ok (.string (ByteArray.empty.push (UInt8.ofNat b.toNat))) (W.alloc (.cells #[.int .u8 b] 5)) := by
  have h := run_convert_bytes_string (P := Tryd.prog) (W.alloc (.cells #[.int .u8 b] 5)) 40 9 5 (some ⟨W.heap.size, 0, none⟩) 1 1 Tryd.underlying40 Tryd.underlying5 Tryd.underlying9
  rw [h]
  have hl := run_loadCells_list (P := Tryd.prog) (W.alloc (.cells #[.int .u8 b] 5)) ⟨W.heap.size, 0, none⟩ [.int .u8 b] (fun j v hj => by
    match j, hj with
    | 0, hj => simp at hj; subst hj; rw [addr_add]; exact one_cell (World.alloc_heap_new W (.cells #[.int .u8 b] 5))
    | j + 1, hj => simp at hj)
  exact run_bytesToString _ _ 1 1 [b] hl
theorem size_one (t : ByteArray) (b : UInt8) : (t ++ ByteArray.empty.push b).size = t.size + 1 := by
  rw [ByteArray.size_append]; rfl
attribute [local go_sem] conv_one
set_option maxRecDepth 100000 in
set_option maxHeartbeats 4000000 in
theorem made_any (v : Value) (U : List Value) (n : Nat) (w : World) (hv : RowAt w v U) (hi : ∀ k, k < U.length → ∃ x : Int, U.getD k (.bool false) = .int .i64 x) (hU : U.length ≤ maxLen) (hn : n ≤ 1000) :
    Calls Tryd.prog 11 #[v, .int .i64 n] w fun e W' => ∃ t : ByteArray, e = .returned (.string t) ∧ t.size ≤ n ∧ Below w.heap.size w W' := by
  obtain ⟨ao, ac, rfl, hs⟩ := hv
  unfold maxLen at hU
  go_enter Tryd.func11, Tryd.ntmps11
  go_wp2
  go_loopw [6, 7] (fun v6 v7 wr => ∃ (t : ByteArray) (k : Nat), v6 = .string t ∧ v7 = .int .i64 k ∧ t.size = k ∧ k ≤ U.length ∧ k ≤ n ∧ Below w.heap.size w wr) (fun _ v _ => n - (intOf v).toNat)
  case atStart => exact ⟨_, 0, rfl, rfl, rfl, Nat.zero_le _, Nat.zero_le _, Below.refl _ _⟩
  case round =>
    obtain ⟨t, k, rfl, rfl, ht, hk, hkn, hb⟩ := hrel
    by_cases h1 : k < U.length
    · have h1i : (k : Int) < (U.length : Int) := by omega
      by_cases h2 : k < n
      · have h2i : (k : Int) < (n : Int) := by omega
        obtain ⟨x, hx⟩ := hi k h1
        rcases hs with rfl | ⟨g, o, rfl, hg, hc⟩
        · simp at h1
        · have c1 := hc k h1
          rw [hx] at c1
          replace c1 := (hb.cell (p := ⟨g, o + k, none⟩) hg).trans c1
          have HC := Lib.hid hc
          have HI := Lib.hid hi
          clear hc hi hx
          obtain ⟨m, hm, hm1⟩ : ∃ m : Nat, bits .and .i64 x 65535 = (m : Int) ∧ m ≤ 65535 := ⟨(x % 65536).toNat, by rw [i64_and65535]; omega, by omega⟩
          obtain ⟨q, hq, hq1⟩ : ∃ q : Nat, (m : Int).tmod 29 = (q : Int) ∧ q < 29 := ⟨m % 29, by rw [Int.tmod_eq_emod_of_nonneg (by omega)]; omega, by omega⟩
          have hq2 : (q : Int) < 29 := by omega
          by_cases h255 : (m : Int) / 256 = 255
          · have h255' : ((m : Int) / 256 == 255) = true := by simpa using h255
            clear h255
            go_wp2
            exact ⟨⟨_, k + 1, rfl, by go_num, by rw [size_one]; omega, h1, h2, balloc hb _⟩, by simp [intOf]; omega⟩
          · have h255' : ((m : Int) / 256 == 255) = false := by simpa using h255
            clear h255
            go_wp2
            exact ⟨⟨_, k + 1, rfl, by go_num, by rw [size_one]; omega, h1, h2, balloc hb _⟩, by simp [intOf]; omega⟩
      · have h2i : ¬ (k : Int) < (n : Int) := by omega
        clear hs hi
        go_wp2
        go_ret
        exact ⟨_, rfl, by omega, hb⟩
    · have h1i : ¬ (k : Int) < (U.length : Int) := by omega
      clear hs hi
      go_wp2
      go_ret
      exact ⟨_, rfl, by omega, hb⟩
end Go.Proofs.YtnikddmcphcmeaaDoor
