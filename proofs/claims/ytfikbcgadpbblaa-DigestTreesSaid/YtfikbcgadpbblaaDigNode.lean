/- The contracts of digest.Of, of the nodes and of the root. -/
import Derived.Test.YtfikbcgadpbblaaDigOf
namespace Go.Proofs.Ytfikbcgadpbblaa
set_option linter.unusedVariables false
open Go.RowKit
set_option maxRecDepth 100000 in
set_option maxHeartbeats 1000000 in
theorem text_any (l : List UInt8) (w : World) : Calls Try.prog 26 #[DG.sumV l] w fun e w' => e = .returned (.string (DG.S (DG.dig l))) ∧ Below w.heap.size w w' := by
  have hcv := conv_lit w (DG.dig l) 8 8 46 rfl
  rw [DG.sumV_eq]
  have hs := DG.sumA_size l
  have h1 := DG.sumA_one l
  have HI : (Try.prog.info? 46).map (·.size) = some (DG.sumA l).size := by rw [hs]; kernel_rfl
  unfold DG.sumA at *
  generalize DG.S (DG.dig l) = r at *
  generalize ((DG.dig l).map fun b => Value.int .u8 (b.toNat : Int)).toArray = C at *
  go_enter Try.func26, Try.ntmps26
  go_wp2
  go_ret
  exact ⟨rfl, balloc (Below.refl _ _) _⟩
set_option maxRecDepth 100000 in
set_option maxHeartbeats 1000000 in
theorem Of_any (s : ByteArray) (w : World) (hs : s.size ≤ maxLen) : Calls Try.prog 13 #[.string s] w fun e w' => e = .returned (.string (DG.Of s)) ∧ Below w.heap.size w w' := by
  have HR : Hid (RowAt (w.alloc (.cells #[.string s] 9)) (.slice (some ⟨w.heap.size, 0, none⟩) [s].length 1) ([s].map Value.string)) := Lib.hid ⟨_, _, rfl, .inr ⟨_, _, rfl, by rw [World.size_alloc]; omega, fun i hi => by
    have : i = 0 := by simp at hi; omega
    subst this
    rw [World.cell?_alloc_at _ _ _ _ rfl]
    rfl⟩⟩
  have HS : Hid (∀ x ∈ [s], x.size ≤ maxLen) := Lib.hid (by simpa using hs)
  have HC : Hid (DG.S (DG.dig (DG.cat [s])) = DG.Of s) := Lib.hid (by simp [DG.cat, DG.Of])
  clear hs
  go_enter Try.func13, Try.ntmps13
  go_wp2_with (first | (go_at_call 25; refine (of_any _ 1 [s] _ HR.out (by simp [maxLen]) HS.out).mono ?_; rintro e w1 ⟨rfl, hb1⟩) | (go_at_call 26; refine (text_any _ _).mono ?_; rintro e w2 ⟨rfl, hb2⟩))
  go_ret
  exact ⟨by rw [HC.out]; rfl, bnext (bnext (balloc (Below.refl _ _) _) hb1) hb2⟩
set_option maxRecDepth 100000 in
set_option maxHeartbeats 1000000 in
theorem Pair_any (a b : ByteArray) (w : World) (ha : a.size < 4294967296) (hb : b.size ≤ maxLen) : Calls Try.prog 15 #[.string a, .string b] w fun e w' => e = .returned (.string (DG.Pair a b)) ∧ Below w.heap.size w w' := by
  obtain ⟨n, hn⟩ : ∃ n, a.size = n := ⟨_, rfl⟩
  have hcv := conv_lit w (1 :: DG.b4 n) 5 5 5 rfl
  have e : ((1 :: DG.b4 n).map fun b => Value.int .u8 (b.toNat : Int)).toArray = #[.int .u8 1, .int .u8 (n / 16777216), .int .u8 (n / 65536 % 256), .int .u8 (n / 256 % 256), .int .u8 (n % 256)] := by
    have e0 : (n : Int) / 16777216 % 256 = n / 16777216 := by omega
    simp [DG.b4, e0]
  rw [e] at hcv
  obtain ⟨h, hh⟩ : ∃ h, DG.S (1 :: DG.b4 n) = h := ⟨_, rfl⟩
  rw [hh] at hcv
  have HC : Hid (DG.S (DG.dig (DG.cat [h, a, b])) = DG.Pair a b) := Lib.hid (by rw [← hh]; simp [DG.cat, DG.Pair, DG.pairL, DG.S_toList, hn])
  have HS : Hid (∀ x ∈ [h, a, b], x.size ≤ maxLen) := Lib.hid (by
    have : h.size = 5 := by rw [← hh, DG.S_size]; rfl
    intro x hx
    simp at hx
    rcases hx with rfl | rfl | rfl
    · rw [this]; simp [maxLen]
    · unfold maxLen; omega
    · exact hb)
  have HR : Hid (∀ o : Obj, RowAt ((w.alloc o).alloc (.cells #[.string h, .string a, .string b] 9)) (.slice (some ⟨w.heap.size + 1, 0, none⟩) [h, a, b].length 3) ([h, a, b].map Value.string)) := Lib.hid fun o => ⟨_, _, rfl, .inr ⟨_, _, rfl, by rw [World.size_alloc, World.size_alloc]; omega, fun i hi => by
    rw [World.cell?_alloc_at _ _ _ _ (by rw [World.size_alloc])]
    simp only [List.map_cons, List.map_nil, List.length_cons, List.length_nil] at hi
    match i, hi with
    | 0, _ => rfl
    | 1, _ => rfl
    | 2, _ => rfl⟩⟩
  have hm : n ≤ maxLen := by unfold maxLen; omega
  clear hh e hb
  rw [hn] at ha
  go_enter Try.func15, Try.ntmps15
  go_wp2_with (first | (go_at_call 25; refine (of_any _ 3 [h, a, b] _ (HR.out _) (by simp [maxLen]) HS.out).mono ?_; rintro e w1 ⟨rfl, hb1⟩) | (go_at_call 26; refine (text_any _ _).mono ?_; rintro e w2 ⟨rfl, hb2⟩))
  go_ret
  exact ⟨by rw [HC.out]; rfl, bnext (bnext (balloc (balloc (Below.refl _ _) _) _) hb1) hb2⟩
set_option maxRecDepth 100000 in
set_option maxHeartbeats 1000000 in
theorem root_any (k : Nat) (b : ByteArray) (w : World) (ha : k < 256) (hb : b.size ≤ maxLen) : Calls Try.prog 31 #[.int .i64 k, .string b] w fun e w' => e = .returned (DG.sumV (DG.rootL k b)) ∧ Below w.heap.size w w' := by
  have HKK : Hid (DG.dig (DG.rootL k b) = DG.dig (DG.cat [DG.S [2, UInt8.ofNat k], b])) := Lib.hid (by simp [DG.cat, DG.rootL, DG.S_toList])
  have hcv := conv_lit (w.alloc (.cells #[.int .u8 0, .int .u8 0, .int .u8 0, .int .u8 0, .int .u8 0, .int .u8 0, .int .u8 0, .int .u8 0] 46)) [2, UInt8.ofNat k] 2 2 5 rfl
  have e : (([2, UInt8.ofNat k] : List UInt8).map fun b => Value.int .u8 (b.toNat : Int)).toArray = #[.int .u8 2, .int .u8 k] := by
    have e0 : (k : Int) % 256 = k := by omega
    simp [e0]
  rw [e, World.size_alloc] at hcv
  obtain ⟨h, hh⟩ : ∃ h, DG.S [2, UInt8.ofNat k] = h := ⟨_, rfl⟩
  rw [hh] at hcv HKK
  have HS : Hid (∀ x ∈ [h, b], x.size ≤ maxLen) := Lib.hid (by
    have : h.size = 2 := by rw [← hh, DG.S_size]; rfl
    intro x hx
    simp at hx
    rcases hx with rfl | rfl
    · rw [this]; simp [maxLen]
    · exact hb)
  have HR : Hid (∀ o o' : Obj, RowAt (((w.alloc o).alloc o').alloc (.cells #[.string h, .string b] 9)) (.slice (some ⟨w.heap.size + 1 + 1, 0, none⟩) [h, b].length 2) ([h, b].map Value.string)) := Lib.hid fun o o' => ⟨_, _, rfl, .inr ⟨_, _, rfl, by rw [World.size_alloc, World.size_alloc, World.size_alloc]; omega, fun i hi => by
    rw [World.cell?_alloc_at _ _ _ _ (by rw [World.size_alloc, World.size_alloc])]
    simp only [List.map_cons, List.map_nil, List.length_cons, List.length_nil] at hi
    match i, hi with
    | 0, _ => rfl
    | 1, _ => rfl⟩⟩
  have HZ : Hid (∀ o o' : Obj, ((w.alloc (.cells #[.int .u8 0, .int .u8 0, .int .u8 0, .int .u8 0, .int .u8 0, .int .u8 0, .int .u8 0, .int .u8 0] 46)).alloc o |>.alloc o').heap[w.heap.size]? = some (.cells #[.int .u8 0, .int .u8 0, .int .u8 0, .int .u8 0, .int .u8 0, .int .u8 0, .int .u8 0, .int .u8 0] 46 (0, 0))) := Lib.hid fun o o' => by
    have h0 := heap_alloc_new w (.cells #[.int .u8 0, .int .u8 0, .int .u8 0, .int .u8 0, .int .u8 0, .int .u8 0, .int .u8 0, .int .u8 0] 46)
    exact ((balloc (balloc (Below.refl _ _) _) _).block _ (by rw [World.size_alloc]; omega)).trans h0
  obtain ⟨C, hC⟩ : ∃ C, DG.sumV (DG.cat [h, b]) = .agg C := ⟨_, DG.sumV_eq _⟩
  have hC1 : C.size = 8 := by have := DG.sumA_size (DG.cat [h, b]); rw [DG.sumV_eq] at hC; injection hC with e; rw [← e]; exact this
  have hC2 : C.all (·.oneCell') = true := by have := DG.sumA_one (DG.cat [h, b]); rw [DG.sumV_eq] at hC; injection hC with e; rw [← e]; exact this
  have HI : Hid ((Try.prog.info? 46).map (·.size) = some C.size) := Lib.hid (by rw [hC1]; kernel_rfl)
  have HC := Lib.hid (And.intro hC1 hC2)
  have HCC := Lib.hid hC
  clear hC hC1 hC2 e hh hb
  have hki : (k : Int) < 256 := by omega
  go_enter Try.func31, Try.ntmps31
  go_wp2_with (first | (go_at_call 25; refine (of_any _ 2 [h, b] _ (HR.out _ _) (by simp [maxLen]) HS.out).mono ?_; rintro e w2 ⟨rfl, hb2⟩; rw [HCC.out]; have hz2 := (hb2.block _ (by simp only [World.size_alloc]; omega)).trans (HZ.out _ _); have hcs := HC.out.1; have hst := store_all Try.prog w2 w.heap.size 46 _ C hz2 (by rw [HC.out.1]; rfl) HC.out.2))
  refine bodyPost_ret (results_cell_row Try.results31 _ _ w.heap.size 46 _ (0, 0) _ rfl (setRow_heap _ _ _ _ _ _ hz2) Try.underlying46 rfl HI.out) rfl ?_
  exact ⟨by rw [← HCC.out]; unfold DG.sumV; rw [HKK.out], below_setRow (bnext (balloc (balloc (balloc (Below.refl _ _) _) _) _) hb2) (Nat.le_refl _) _⟩
end Go.Proofs.Ytfikbcgadpbblaa
