/- The contract of breaks.heads. -/
import Derived.Test.YtcocnmpnbolpmaaDoorBrkPlain
import Derived.Laws.OwnMore
namespace Go.Proofs.YtcocnmpnbolpmaaDoor
set_option linter.unusedVariables false
open Go.RowKit Go.Shelf
/-- 'make([]int, n)'. -/
theorem make_ints (w : World) (n B : Nat) (hB : B ≤ w.heap.size) (hn : n ≤ 1000000000) :
    ∃ w', (Instr.makeSlice 22 (.int .i64 (n : Int)) (.int .i64 (n : Int))).run Tryd.prog w = .ok (.slice (some ⟨w.heap.size, 0, none⟩) n n) w' ∧
      w'.ownsRow B 3 1 (.slice (some ⟨w.heap.size, 0, none⟩) n n) n ((List.replicate n (0 : Int)).map (Value.int .i64)) ∧ Below w.heap.size w w' ∧ w.heap.size < w'.heap.size := by
  obtain ⟨i0, hi, hz0, hz1, hz2⟩ := info_parts info_int
  have h := run_make (P := Tryd.prog) w 22 3 i0 (.int .i64 0) Tryd.underlying22 hi hz0 .i64 .i64 n n (by omega) (by omega) (by rw [hz2]; omega) (by omega)
  simp only [Int.toNat_natCast] at h
  refine ⟨_, h, ?_, balloc (Below.refl _ _) _, by simp⟩
  have := World.ownsRow_lit (base := B) (e := 3) (size := 1) w (madeCells #[.int .i64 0] (n * i0.size)) n hB (by unfold maxLen; omega) (by rw [size_madeCells, hz1])
  rw [toList_madeCells_one, hz1, Nat.mul_one] at this
  rw [show (Value.int .i64 0).cells = #[.int .i64 0] from rfl, hz1, Nat.mul_one, List.map_replicate]
  exact this
theorem set_mid (a b : List Int) (x y : Int) : ((a ++ x :: b).map (Value.int .i64)).set a.length (.int .i64 y) = ((a ++ [y]) ++ b).map (Value.int .i64) := by
  simp
set_option maxRecDepth 100000 in
set_option maxHeartbeats 4000000 in
theorem heads_any (s : ByteArray) (v : Value) (l : List (Nat × Nat)) (g : Nat × Nat) (w : World) (hl : Laid w g) (hs : s.size ≤ 1000000000) (hv : SrcP w v l) (hL : l.length ≤ 1000000000) (hm : ∀ x ∈ l, x.1 < x.2 ∧ x.2 ≤ s.size) :
    Calls Tryd.prog 24 #[.string s, v] w fun e W' => ∃ v', e = .returned v' ∧ W'.ownsRow w.heap.size 3 1 v' l.length ((BP.heads s l).map (Value.int .i64)) ∧ Below w.heap.size w W' := by
  have HL : Hid (∀ B, Below w.heap.size w B → Laid B g) := Lib.hid fun B hb => hl.mono hb
  obtain ⟨ao, ac, rfl, hr⟩ := hv
  obtain ⟨w1, hmk, hown, hb1, hw1⟩ := make_ints w l.length w.heap.size (Nat.le_refl _) hL
  have HM := Lib.hid hm
  clear hm hl
  go_enter Tryd.func24, Tryd.ntmps24
  go_wp2
  go_loopw [13] (fun v13 wr => ∃ k : Nat, v13 = .int .i64 k ∧ k ≤ l.length ∧ wr.ownsRow w.heap.size 3 1 (.slice (some ⟨w.heap.size, 0, none⟩) l.length l.length) l.length ((BP.heads s (l.take k) ++ List.replicate (l.length - k) 0).map (Value.int .i64)) ∧ Below w.heap.size w wr) (fun v _ => l.length - (intOf v).toNat)
  case atStart => exact ⟨0, rfl, Nat.zero_le _, by simpa [BP.heads] using hown, hb1⟩
  case round =>
    obtain ⟨k, rfl, hk, hrow, hb⟩ := hrel
    have hbs := hb.size
    by_cases h1 : k < l.length
    · have h1i : (k : Int) < (l.length : Int) := by omega
      obtain ⟨x, hx⟩ : ∃ x, l[k]? = some x := ⟨l[k], List.getElem?_eq_getElem h1⟩
      have hxm := HM.out x (List.mem_of_getElem? hx)
      rcases hr with rfl | ⟨g', rfl, hg, hc⟩
      · simp at h1
      · obtain ⟨c0, c1⟩ := hc k x hx
        replace c0 := (hb.cell (p := ⟨g', k * 2, none⟩) hg).trans c0
        replace c1 := (hb.cell (p := ⟨g', k * 2 + 1, none⟩) hg).trans c1
        have HC := Lib.hid hc
        have hh : BP.heads s (l.take (k + 1)) = BP.heads s (l.take k) ++ [BP.hd s x] := by rw [List.take_add_one, hx]; simp [BP.heads]
        have hlk : (BP.heads s (l.take k)).length = k := by simp [BP.heads]; omega
        have hrep : List.replicate (l.length - k) (0 : Int) = 0 :: List.replicate (l.length - (k + 1)) 0 := by rw [← List.replicate_succ]; congr 1; omega
        obtain ⟨b, hbase, hb0, hb1, _, _⟩ := CP.base_spec hxm.1 hxm.2
        have hhd : BP.hd s x = (s[b].toNat : Int) := by unfold BP.hd; rw [hbase, Int.toNat_natCast, CP.ch_at]
        rw [hrep] at hrow
        have HH := Lib.hid hh
        have HK := Lib.hid hlk
        generalize BP.heads s (l.take k) = A at hrow HH HK
        generalize hR : List.replicate (l.length - (k + 1)) (0 : Int) = R at hrow
        have HR := Lib.hid hR
        clear hR
        obtain ⟨f, u⟩ := x
        simp only at c0 c1 hbase hxm
        have HB := Lib.hid fun (W : World) (hW : Below w.heap.size w W) => base_any s (f : Int) (u : Int) g W (HL.out _ hW) hs
        rw [hbase] at HB
        have hbS : b < s.size := by omega
        have hbSi : (b : Int) < (s.size : Int) := by omega
        have hby : (s[b].toNat : Int) ≤ 255 := by have := s[b].toNat_lt; omega
        have HHD := Lib.hid hhd
        clear hc hx hh hlk hrep hbase hhd hmk
        go_wp2_with fail
        have hrow1 := hrow.alloc (.cells #[.int .i64 (f : Int), .int .i64 (u : Int)] 33)
        have hbA : Below w.heap.size w (wr.alloc (.cells #[.int .i64 (f : Int), .int .i64 (u : Int)] 33)) := balloc hb _
        refine (HB.out _ hbA).mono ?_
        rintro e w3 ⟨rfl, hb3⟩
        have hrow3 := own_below hrow1 hb3
        have hcell := hrow3.cellAt k (by omega)
        have hfr := hrow3.frozenAt k
        have hst := hrow3.stored k (.int .i64 (s[b].toNat : Int))
        have HB3 := Lib.hid (bnext hbA hb3)
        rw [show ((A ++ 0 :: R).map (Value.int .i64))[k]? = some (.int .i64 0) by rw [← HK.out]; simp] at hcell
        have HST := Lib.hid hst
        clear hst hrow1 hrow3 hrow hbA hb3
        go_wp2_with fail
        go_roundw
        case rel =>
          refine ⟨k + 1, by go_num, h1, ?_, bset HB3.out (Nat.le_refl _) _⟩
          have h2 := HST.out.1
          have h3 := set_mid A R 0 (s[b].toNat : Int)
          rw [HK.out] at h3
          rw [h3] at h2
          rw [HH.out, HHD.out, HR.out]
          exact h2
        case measure => simp [intOf]; omega
    · obtain rfl : k = l.length := by omega
      rw [List.take_length, Nat.sub_self, List.replicate_zero, List.append_nil] at hrow
      clear hr hmk
      go_wp2
      go_ret
      exact ⟨_, rfl, hrow, hb⟩
end Go.Proofs.YtcocnmpnbolpmaaDoor
