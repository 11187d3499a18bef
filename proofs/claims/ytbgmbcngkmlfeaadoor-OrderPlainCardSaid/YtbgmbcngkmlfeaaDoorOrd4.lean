/- The base of a text, and the kinds of its characters. No conditions. -/
import Derived.Test.YtbgmbcngkmlfeaaDoorOrd2
import Derived.Test.YtbgmbcngkmlfeaaDoorCluRBase
import Derived.Test.YtbgmbcngkmlfeaaDoorApp
import Derived.Maps.AppendAt
import Derived.Deep.Cut
namespace Go.Proofs.YtbgmbcngkmlfeaaDoor.OP
open CP
theorem sts_len (s : ByteArray) : (sts s).length = s.size := by simp [sts]
theorem sts_drop {s : ByteArray} {i : Nat} (h : i < s.size) : (sts s).drop i = FC.stg (ch s i) :: (sts s).drop (i + 1) := by
  rw [List.drop_eq_getElem_cons (by rw [sts_len]; exact h)]
  simp [sts]
theorem sts_end (s : ByteArray) : (sts s).drop s.size = [] := List.drop_of_length_le (by rw [sts_len]; exact Nat.le_refl _)
end Go.Proofs.YtbgmbcngkmlfeaaDoor.OP
namespace Go.Proofs.YtbgmbcngkmlfeaaDoor
set_option maxRecDepth 100000
set_option linter.unusedVariables false
open Go.RowKit Go.Shelf Go.Deep
theorem make_cap (w : World) (n B : Nat) (hB : B ≤ w.heap.size) (hn : n ≤ 1000000000) :
    ∃ w', (Instr.makeSlice 26 (.int .i64 0) (.int .i64 (n : Int))).run Tryd.prog w = .ok (.slice (some ⟨w.heap.size, 0, none⟩) 0 n) w' ∧
      w'.ownsRow B 3 1 (.slice (some ⟨w.heap.size, 0, none⟩) 0 n) 0 [] ∧ Below w.heap.size w w' ∧ w.heap.size < w'.heap.size := by
  obtain ⟨i0, hi, hz0, hz1, hz2⟩ := info_parts info_int
  have h := run_make (P := Tryd.prog) w 26 3 i0 (.int .i64 0) Tryd.underlying26 hi hz0 .i64 .i64 0 n (by omega) (by omega) (by rw [hz2]; omega) (by omega)
  simp only [Int.toNat_natCast] at h
  refine ⟨_, h, ?_, balloc (Below.refl _ _) _, by simp⟩
  exact ⟨by simp, .inr ⟨w.heap.size, n, _, rfl, hB, heap_alloc_new w _, Nat.zero_le _, by unfold maxLen; omega, by rw [size_madeCells, hz1], by simp⟩⟩
set_option maxHeartbeats 4000000 in
theorem obase_any (s : ByteArray) (g : Nat × Nat) (w : World) (hl : Laid w g) (hs : s.size ≤ 1000000000) :
    Calls Tryd.prog 28 #[.string s] w fun e w' => e = .returned (.int .i64 (OP.bse s)) ∧ Below w.heap.size w w' := by
  have HL : Hid (∀ B, Below w.heap.size w B → Laid B g) := Lib.hid fun B hb => hl.mono hb
  clear hl
  go_enter Tryd.func28, Tryd.ntmps28
  go_wp2_with fail
  go_loopw [7] (fun v wr => ∃ i : Nat, v = .int .i64 (i : Int) ∧ i ≤ s.size ∧ Hid (OP.fb ((OP.sts s).drop i) = OP.bse s) ∧ Below w.heap.size w wr) (fun v _ => s.size - (intOf v).toNat)
  case atStart => exact ⟨0, rfl, Nat.zero_le _, Lib.hid rfl, Below.refl _ _⟩
  case round =>
    obtain ⟨i, rfl, hi, HF, hb⟩ := hrel
    by_cases hil : i < s.size
    · have hii : (i : Int) < (s.size : Int) := by omega
      have hby : (s[i].toNat : Int) ≤ 255 := by have := s[i].toNat_lt; omega
      have HX := Lib.hid (strong_any ((s[i].toNat : Nat) : Int) g wr (HL.out _ hb))
      have hf := HF.out
      rw [OP.sts_drop hil, CP.ch_at hil, OP.fb] at hf
      obtain ⟨v, hv⟩ : ∃ v, FC.stg ((s[i].toNat : Nat) : Int) = v := ⟨_, rfl⟩
      rw [hv] at HX hf
      have HF2 := Lib.hid hf
      clear hf hv HF
      by_cases h1 : v = 1
      · subst h1
        go_wp2_with fail
        refine HX.out.mono ?_
        rintro e w2 ⟨rfl, hb2⟩
        go_wp2_with fail
        go_ret
        exact ⟨ret1 (by have h := HF2.out; simp at h; exact h), bnext hb hb2⟩
      · by_cases h2 : v = 2
        · subst h2
          go_wp2_with fail
          refine HX.out.mono ?_
          rintro e w2 ⟨rfl, hb2⟩
          go_wp2_with fail
          go_ret
          exact ⟨ret1 (by have h := HF2.out; simp at h; exact h), bnext hb hb2⟩
        · have h1b : (v == 1) = false := by simp [h1]
          have h2b : (v == 2) = false := by simp [h2]
          have HN := Lib.hid (by have h := HF2.out; rw [if_neg (by omega)] at h; exact h)
          clear h1 h2 HF2
          go_wp2_with fail
          refine HX.out.mono ?_
          rintro e w2 ⟨rfl, hb2⟩
          go_wp2_with fail
          go_roundw
          case rel => exact ⟨i + 1, by go_num, hil, HN, bnext hb hb2⟩
          case measure => simp [intOf]; omega
    · obtain rfl : i = s.size := by omega
      have HN : Hid (OP.bse s = 1) := Lib.hid (by rw [← HF.out, OP.sts_end]; rfl)
      clear HF
      go_wp2
      go_ret
      exact ⟨by rw [HN.out]; rfl, hb⟩
end Go.Proofs.YtbgmbcngkmlfeaaDoor
