/- Verify of the program. -/
import Derived.Test.YtinkhgmdeldniaaDigVer
import Derived.Lib.BufferWrite
import Derived.Deep.WholeRow
import Derived.Stop.BytesEq
namespace Go.Proofs.Ytinkhgmdeldniaa
set_option maxRecDepth 100000
set_option linter.unusedVariables false
open Go.RowKit
abbrev zs : Array Value := #[.int .u8 0, .int .u8 0, .int .u8 0, .int .u8 0, .int .u8 0, .int .u8 0, .int .u8 0, .int .u8 0]
theorem copy_root (w : World) (root : ByteArray) (h8 : root.size = 8) {RB : Array Value} (hRB : (root.data.toList.map fun b => Value.int .u8 (b.toNat : Int)).toArray = RB) :
    Sem.run Try.prog (Builtin.copy_ #[51, 9] 3 #[.slice (some ⟨w.heap.size, 0, none⟩) 8 8, .string root]) (w.alloc (.cells #[.int .u8 0, .int .u8 0, .int .u8 0, .int .u8 0, .int .u8 0, .int .u8 0, .int .u8 0, .int .u8 0] 86)) = .ok (.int .i64 8) (w.alloc (.cells RB 86)) := by
  have := Go.Lib.run_copy_row_string (P := Try.prog) (w.alloc (.cells zs 86)) 51 9 3 5 w.heap.size 0 8 8 root zs 86 Try.underlying51 (by kernel_rfl) (heap_alloc_new w _) (by omega) (by rw [h8]; decide)
  rw [World.setRow_alloc_new, h8] at this
  rw [this]
  congr 4
  rw [← hRB]
  simp [Go.Lib.byteCells]
theorem load_root (w : World) (RB : Array Value) (h8 : RB.size = 8) (w2 : World) (hb : Below (w.alloc (.cells RB 86)).heap.size (w.alloc (.cells RB 86)) w2) :
    Sem.run Try.prog (loadVar 86 ⟨w.heap.size, 0, none⟩) w2 = .ok (.agg RB) w2 :=
  run_loadVar_row w2 w.heap.size 86 86 RB (0, 0) _ ((hb.block _ (by rw [World.size_alloc]; omega)).trans (heap_alloc_new w _)) Try.underlying86 rfl (by rw [h8]; kernel_rfl)
theorem eight (root : ByteArray) (h8 : root.size = 8) : ∃ n0 n1 n2 n3 n4 n5 n6 n7 : Int, (root.data.toList.map fun b => Value.int .u8 (b.toNat : Int)).toArray = #[.int .u8 n0, .int .u8 n1, .int .u8 n2, .int .u8 n3, .int .u8 n4, .int .u8 n5, .int .u8 n6, .int .u8 n7] := by
  have hl : root.data.toList.length = 8 := by rw [Array.length_toList]; exact h8
  generalize root.data.toList = l at hl
  match l, hl with
  | [a, b, c, d, e, f, g, h], _ => exact ⟨_, _, _, _, _, _, _, _, rfl⟩
theorem size_byte : ∀ w, (Go.sizeOf 5).run Try.prog w = .ok 1 w := by
  have h : (Try.prog.info? 5).map (·.size) = some 1 := by kernel_rfl
  intro w
  cases hq : Try.prog.info? 5 with
  | none => rw [hq] at h; simp at h
  | some i => rw [hq] at h; simp at h; simp [sizeOf, typeInfo, hq, h]
theorem eql_sum (w : World) (root : ByteArray) (h8 : root.size = 8) (l : List UInt8) {RB : Array Value} (hRB : (root.data.toList.map fun b => Value.int .u8 (b.toNat : Int)).toArray = RB) :
    Sem.run Try.prog (binOp .eql 86 (.agg RB) (DG.sumV l)) w = .ok (.bool (decide (root = DG.S (DG.dig l)))) w := by
  have := run_eql_bytes (P := Try.prog) w 86 5 8 Try.underlying86 Try.underlying5 size_byte root.data.toList (DG.dig l) (by rw [Array.length_toList]; exact h8) (DG.dig_length l)
  rw [← hRB]
  refine Eq.trans this ?_
  congr 2
  rw [Bool.eq_iff_iff, beq_iff_eq, decide_eq_true_eq]
  exact ⟨fun h => by rw [← h, DG.S_of], fun h => by rw [h, DG.S_toList]⟩
theorem guard_sum (w : World) (x y : Operand) (RB : Array Value) (l : List UInt8) : Sem.run Try.prog (eqGuard .eql 86 x y (.agg RB) (DG.sumV l)) w = .ok () w := by
  rw [DG.sumV_eq]
  exact run_eqGuard_agg w .eql _ _ _ _ _ (by kernel_rfl)
set_option maxRecDepth 100000 in
set_option maxHeartbeats 4000000 in
theorem verify_any (root leaf : ByteArray) (i : Int) (a : Option Addr) (c : Nat) (l : List ByteArray) (w : World) (hi : -9223372036854775808 ≤ i ∧ i ≤ 9223372036854775807) (hf : leaf.size < 2147483648) (hr : RowAt w (.slice a l.length c) (l.map Value.string)) (hs : ∀ s ∈ l, s.size < 2147483648) :
    Calls Try.prog 48 #[.string root, .string leaf, .int .i64 i, .slice a l.length c] w fun e w' => e = .returned (.bool (DG.verify root leaf i l)) ∧ Below w.heap.size w w' := by
  have HR : Hid (∀ wr, Below w.heap.size w wr → ∀ k, ∀ hk : k < l.length, ∃ g o, a = some ⟨g, o, none⟩ ∧ g < wr.heap.size ∧ wr.cell? ⟨g, o + k, none⟩ = some (.string l[k])) := Lib.hid (fun wr hb k hk => by
    have := (hr.keep hb).cell (a := a) (k := k) (by simpa using hk)
    simpa using this)
  have HS := Lib.hid hs
  clear hr hs
  obtain ⟨i0, i1⟩ := hi
  obtain ⟨n, hn⟩ : ∃ n, l.length = n := ⟨_, rfl⟩
  have HN := Lib.hid hn
  rw [hn]
  by_cases h8 : root.size = 8
  case neg =>
    have HV : Hid (DG.verify root leaf i l = false) := Lib.hid (by
      unfold DG.verify
      have : ¬ root = DG.S (DG.dig (DG.rootL l.length (DG.climb l i.toNat leaf).2)) := fun e => h8 (by rw [e, DG.S_size, DG.dig_length])
      simp [this])
    have h8i : ¬ (root.size : Int) = 8 := by omega
    have h8b : ((root.size : Int) == 8) = false := by simp; omega
    have h8c : ((root.size : Int) != 8) = true := by simp; omega
    by_cases h20 : n ≤ 20
    · have h20i : (n : Int) ≤ 20 := by omega
      obtain ⟨P, hP, hP', hP0, hP1⟩ := pow_int h20
      clear hn
      by_cases hi0 : 0 ≤ i
      · by_cases hip : i < P
        · obtain ⟨j, rfl⟩ : ∃ j : Nat, i = (j : Int) := ⟨i.toNat, by omega⟩
          go_enter Try.func48, Try.ntmps48
          go_wp2
          go_ret
          exact ⟨by rw [HV.out]; rfl, Below.refl _ _⟩
        · have hip2 : (P : Int) ≤ i := by omega
          go_enter Try.func48, Try.ntmps48
          go_wp2
          go_ret
          exact ⟨by rw [HV.out]; rfl, Below.refl _ _⟩
      · have hi2 : i < 0 := by omega
        go_enter Try.func48, Try.ntmps48
        go_wp2
        go_ret
        exact ⟨by rw [HV.out]; rfl, Below.refl _ _⟩
    · have h20i : ¬ (n : Int) ≤ 20 := by omega
      clear hn
      go_enter Try.func48, Try.ntmps48
      go_wp2
      go_ret
      exact ⟨by rw [HV.out]; rfl, Below.refl _ _⟩
  by_cases h20 : n ≤ 20
  · have h20i : (n : Int) ≤ 20 := by omega
    obtain ⟨P, hP, hP', hP0, hP1⟩ := pow_int h20
    by_cases hi0 : 0 ≤ i
    · by_cases hip : i < P
      · obtain ⟨j, rfl⟩ : ∃ j : Nat, i = (j : Int) := ⟨i.toNat, by omega⟩
        have HV : Hid (DG.verify root leaf j l = decide (root = DG.S (DG.dig (DG.rootL n (DG.climb l j leaf).2)))) := Lib.hid (by
          unfold DG.verify
          rw [hn, hP]
          simp [h20, hip])
        have hd0 : decide ((20 : Int) < (n : Int)) = false := by simp; omega
        have hd1 : decide ((j : Int) < 0) = false := by simp
        have hd2 : decide ((P : Int) ≤ (j : Int)) = false := by simp; omega
        have hd3 : decide (P ≤ j) = false := by simp; omega
        clear hn
        go_enter Try.func48, Try.ntmps48
        go_wp2
        go_loopw [2, 9, 35] (fun v2 v9 v10 wr => ∃ (k : Nat) (s : Nat × ByteArray), k ≤ n ∧ Hid (DG.climb (l.take k) j leaf = s) ∧ v2 = .int .i64 s.1 ∧ v9 = .string s.2 ∧ v10 = .int .i64 k ∧ s.1 ≤ j ∧ s.2.size < 2147483648 ∧ Below w.heap.size w wr) (fun _ _ v _ => n - (intOf v).toNat)
        case atStart => exact ⟨0, (j, leaf), Nat.zero_le _, Lib.hid rfl, rfl, rfl, rfl, Nat.le_refl _, hf, Below.refl _ _⟩
        case round =>
          obtain ⟨k, ⟨m, x⟩, hk, HC, rfl, rfl, rfl, hm, hx, hb⟩ := hrel
          simp only at hm hx
          by_cases hkl : k < n
          · have hki : (k : Int) < (n : Int) := by omega
            have hkl' : k < l.length := by rw [HN.out]; exact hkl
            obtain ⟨g, o, rfl, hg, hc⟩ := HR.out _ hb k hkl'
            have hp : l[k].size < 2147483648 := HS.out _ (List.getElem_mem hkl')
            have HC2 : Hid (DG.climb (l.take (k + 1)) j leaf = DG.step (m, x) l[k]) := Lib.hid (by rw [DG.climb_succ hkl', HC.out])
            obtain ⟨p, hpp⟩ : ∃ p, l[k] = p := ⟨_, rfl⟩
            rw [hpp] at hc hp HC2
            clear hpp
            unfold DG.step at HC2
            by_cases hev : m % 2 = 0
            · have hev' : (m : Int).tmod 2 = 0 := by rw [Int.tmod_eq_emod_of_nonneg (by omega)]; omega
              simp only [hev, ↓reduceIte] at HC2
              go_wp2_with (first | (go_at_call 74; refine (Pair_any x p _ (by omega) (by unfold maxLen; omega)).mono ?_; rintro e w2 ⟨rfl, hb2⟩))
              go_roundw
              case rel => exact ⟨k + 1, _, hkl, HC2, by rw [show ((m : Int) / 2) = ((m / 2 : Nat) : Int) by omega], rfl, by go_num, (by show m / 2 ≤ j; omega), (by show (DG.Pair _ _).size < _; rw [DG.Pair_size]; omega), bnext hb hb2⟩
              case measure => simp [intOf]; omega
            · have hev' : (m : Int).tmod 2 = 1 := by rw [Int.tmod_eq_emod_of_nonneg (by omega)]; omega
              simp only [hev, ↓reduceIte] at HC2
              go_wp2_with (first | (go_at_call 74; refine (Pair_any p x _ (by omega) (by unfold maxLen; omega)).mono ?_; rintro e w2 ⟨rfl, hb2⟩))
              go_roundw
              case rel => exact ⟨k + 1, _, hkl, HC2, by rw [show ((m : Int) / 2) = ((m / 2 : Nat) : Int) by omega], rfl, by go_num, (by show m / 2 ≤ j; omega), (by show (DG.Pair _ _).size < _; rw [DG.Pair_size]; omega), bnext hb hb2⟩
              case measure => simp [intOf]; omega
          · have hke : k = n := by omega
            subst hke
            have hki : ¬ (k : Int) < (k : Int) := by omega
            have htk : l.take k = l := List.take_of_length_le (by rw [HN.out]; exact Nat.le_refl _)
            rw [htk] at HC
            have HVX : Hid (DG.verify root leaf j l = decide (root = DG.S (DG.dig (DG.rootL k x)))) := Lib.hid (by rw [HV.out, HC.out])
            clear htk
            obtain ⟨n0, n1, n2, n3, n4, n5, n6, n7, hRB⟩ := eight root h8
            have hcp := copy_root wr root h8 hRB
            have hld : ∀ w', Below (wr.alloc (.cells #[.int .u8 n0, .int .u8 n1, .int .u8 n2, .int .u8 n3, .int .u8 n4, .int .u8 n5, .int .u8 n6, .int .u8 n7] 86)).heap.size (wr.alloc (.cells #[.int .u8 n0, .int .u8 n1, .int .u8 n2, .int .u8 n3, .int .u8 n4, .int .u8 n5, .int .u8 n6, .int .u8 n7] 86)) w' → w'.heap[wr.heap.size]? = some (.cells #[.int .u8 n0, .int .u8 n1, .int .u8 n2, .int .u8 n3, .int .u8 n4, .int .u8 n5, .int .u8 n6, .int .u8 n7] 86 (0, 0)) := fun w' h => (h.block _ (by rw [World.size_alloc]; omega)).trans (heap_alloc_new wr _)
            go_wp2_with fail
            have hb0 : Below wr.heap.size wr (wr.alloc (.cells #[.int .u8 n0, .int .u8 n1, .int .u8 n2, .int .u8 n3, .int .u8 n4, .int .u8 n5, .int .u8 n6, .int .u8 n7] 86)) := balloc (Below.refl _ _) _
            obtain ⟨B, hB⟩ : ∃ B, wr.heap.size = B := ⟨_, rfl⟩
            rw [hB] at hld
            generalize hW0 : wr.alloc (.cells #[.int .u8 n0, .int .u8 n1, .int .u8 n2, .int .u8 n3, .int .u8 n4, .int .u8 n5, .int .u8 n6, .int .u8 n7] 86) = W0 at *
            have hbW := bnext hb hb0
            have KP : Hid (∀ w', Below W0.heap.size W0 w' → Below W0.heap.size W0 w' ∧ w'.cell? ⟨B, 0, none⟩ = some (.int .u8 n0) ∧ w'.cell? ⟨B, 1, none⟩ = some (.int .u8 n1) ∧ w'.cell? ⟨B, 2, none⟩ = some (.int .u8 n2) ∧ w'.cell? ⟨B, 3, none⟩ = some (.int .u8 n3) ∧ w'.cell? ⟨B, 4, none⟩ = some (.int .u8 n4) ∧ w'.cell? ⟨B, 5, none⟩ = some (.int .u8 n5) ∧ w'.cell? ⟨B, 6, none⟩ = some (.int .u8 n6) ∧ w'.cell? ⟨B, 7, none⟩ = some (.int .u8 n7)) := Lib.hid fun w' h => ⟨h, by simp [World.cell?, hld w' h]⟩
            have HE := Lib.hid (fun w2 => eql_sum w2 root h8 (DG.rootL k x) hRB)
            have HRT := Lib.hid (fun w2 => root_any k x w2 (by omega) (by unfold maxLen; omega))
            try rw [hB]
            have heqA := HE.out
            have hgdA := fun W x y RB l => guard_sum W x y RB l
            clear hcp hld hRB hb hb0 hW0
            go_region_held3 (fun w' => Below W0.heap.size W0 w' ∧ w'.cell? ⟨B, 0, none⟩ = some (.int .u8 n0) ∧ w'.cell? ⟨B, 1, none⟩ = some (.int .u8 n1) ∧ w'.cell? ⟨B, 2, none⟩ = some (.int .u8 n2) ∧ w'.cell? ⟨B, 3, none⟩ = some (.int .u8 n3) ∧ w'.cell? ⟨B, 4, none⟩ = some (.int .u8 n4) ∧ w'.cell? ⟨B, 5, none⟩ = some (.int .u8 n5) ∧ w'.cell? ⟨B, 6, none⟩ = some (.int .u8 n6) ∧ w'.cell? ⟨B, 7, none⟩ = some (.int .u8 n7)) ((refine KP.out _ ?_; (repeat' (first | exact Below.refl _ _ | (with_reducible assumption) | (refine bnext ?_ (by with_reducible assumption)) | (refine balloc ?_ _) | (refine below_drewN ?_ _) | (refine Below.drew ?_))))) (first | (go_at_call 66; refine (HRT.out _).mono ?_; rintro e w2 ⟨rfl, hb2⟩))
            go_wp2
            go_ret
            refine ⟨?_, by (repeat' (first | exact Below.refl _ _ | (with_reducible assumption) | (refine bnext ?_ (by with_reducible assumption)) | (refine balloc ?_ _) | (refine below_drewN ?_ _) | (refine Below.drew ?_)))⟩
            rw [HV.out, HC.out]
            rfl
      · have HV : Hid (DG.verify root leaf i l = false) := Lib.hid (by
          unfold DG.verify
          rw [hn, hP]
          simp [h20, hip])
        clear hn
        go_enter Try.func48, Try.ntmps48
        go_wp2
        go_ret
        exact ⟨by rw [HV.out]; rfl, Below.refl _ _⟩
    · have HV : Hid (DG.verify root leaf i l = false) := Lib.hid (by
        unfold DG.verify
        rw [hn]
        simp [h20, hi0])
      clear hn
      go_enter Try.func48, Try.ntmps48
      go_wp2
      go_ret
      exact ⟨by rw [HV.out]; rfl, Below.refl _ _⟩
  · have h20i : ¬ (n : Int) ≤ 20 := by omega
    have HV : Hid (DG.verify root leaf i l = false) := Lib.hid (by
      unfold DG.verify
      rw [hn]
      simp [h20])
    clear hn
    go_enter Try.func48, Try.ntmps48
    go_wp2
    go_ret
    exact ⟨by rw [HV.out]; rfl, Below.refl _ _⟩
end Go.Proofs.Ytinkhgmdeldniaa
