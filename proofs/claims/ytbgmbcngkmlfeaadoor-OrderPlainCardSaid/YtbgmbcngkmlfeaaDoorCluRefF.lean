/- The contract of the reference's Split. -/
import Derived.Test.YtbgmbcngkmlfeaaDoorCluRefE
namespace Go.Proofs.YtbgmbcngkmlfeaaDoor
open Go.RowKit Go.Shelf
abbrev spc (l : List (Nat × Nat)) : List Value := l.flatMap fun x => [.int .i64 (x.1 : Int), .int .i64 (x.2 : Int)]
theorem span_app {w wr w1 : World} {v : Value} {e k : Nat} {size : Nat} {xs : List Value} {tmp : Obj} (hrow : wr.ownsRow w.heap.size e size v k xs) (hb : Below w.heap.size w wr) (hgrow : (wr.alloc tmp).grownBy w1 v.ownBlock) : Below w.heap.size w w1 :=
  (hb.alloc hb.size tmp).grown hgrow (by have := hb.size; simp; omega) fun j ej => by
    rcases hrow.2 with ⟨rfl, _⟩ | ⟨g, cap, cur, rfl, hgb, _, _⟩
    · simp [Value.ownBlock] at ej
    · obtain rfl : g = j := by simpa [Value.ownBlock] using ej
      exact hgb
set_option maxRecDepth 100000 in
set_option maxHeartbeats 4000000 in
theorem rsplit_any (s : ByteArray) (w : World) (hs : s.size ≤ 1000000000) :
    Calls Tryd.prog 50 #[.string s] w fun e W' => ∃ v, e = .returned v ∧ W'.ownsRow w.heap.size 52 2 v (CP.split s).length (spc (CP.split s)) ∧ Below w.heap.size w W' := by
  obtain ⟨i0, hi, hz0, hz1, hz2⟩ := info_parts info_span
  have hlen : Hid ((CP.split s).length ≤ s.size) := Lib.hid (CP.split_length s)
  go_enter Tryd.func50, Tryd.ntmps50
  go_wp2
  go_loopw [3, 4, 5] (fun v3 v4 v5 wr => ∃ (pre : List (Nat × Nat)) (f i : Nat) (x y : Int), v4 = .int .i64 x ∧ v5 = .int .i64 y ∧ x = (f : Int) ∧ y = (i : Int) ∧ Hid (CP.At s pre f) ∧ i ≤ s.size ∧ (i = 0 ∧ f = 0 ∨ f < i ∧ CP.nxt s f (s.size - i) i = CP.stop s f) ∧ wr.ownsRow w.heap.size 52 2 v3 pre.length (spc pre) ∧ Below w.heap.size w wr) (fun _ _ v _ => s.size - (intOf v).toNat)
  case atStart => exact ⟨[], 0, 0, 0, 0, rfl, rfl, rfl, rfl, Lib.hid (CP.At.start s), Nat.zero_le _, .inl ⟨rfl, rfl⟩, World.ownsRow_nil _ _ _ _, Below.refl _ _⟩
  case round =>
    obtain ⟨pre, f, i, x, y, rfl, rfl, ex, ey, HA, his, HN, hrow, hb⟩ := hrel
    have hbs := hb.size
    by_cases hil : i < s.size
    · rcases HN with ⟨rfl, rfl⟩ | ⟨hfi, HN⟩
      · obtain rfl : x = 0 := ex
        obtain rfl : y = 0 := ey
        have hsp : (0 : Int) < (s.size : Int) := by omega
        go_wp2_with fail
        refine (rbegins_zero s 0 _).mono ?_
        rintro e _ ⟨rfl, rfl⟩
        go_wp2
        go_roundw
        case rel => exact ⟨pre, 0, 1, 0, 1, rfl, rfl, rfl, rfl, HA, hil, .inr ⟨by omega, rfl⟩, hrow, hb⟩
        case measure => simp [intOf]; omega
      · subst ex ey
        have hii : (i : Int) < (s.size : Int) := by omega
        have hi0 : 0 < (i : Int) := by omega
        have hfl : f < s.size := by omega
        have hm := HA.out.more hfl
        have hpl := hlen.out
        have HC := Lib.hid (rbegins_any s f i wr (by unfold maxLen; omega) hil hfi)
        cases hbg : CP.beg s f i with
        | false =>
          rw [hbg] at HC
          have HN2 : Hid (CP.nxt s f (s.size - (i + 1)) (i + 1) = CP.stop s f) := Lib.hid (by rw [← HN, CP.nxt_on hbg (by omega)]; congr 1)
          clear hbg HN hm hpl
          go_wp2_with fail
          refine HC.out.mono ?_
          rintro e _ ⟨rfl, rfl⟩
          go_wp2
          go_roundw
          case rel => exact ⟨pre, f, i + 1, (f : Int), (i : Int) + 1, rfl, rfl, rfl, by omega, HA, hil, .inr ⟨by omega, HN2.out⟩, hrow, hb⟩
          case measure => simp [intOf]; omega
        | true =>
          rw [hbg] at HC
          have HE : Hid (CP.stop s f = i) := Lib.hid (by rw [← HN, CP.nxt_here hbg (by omega)])
          have HA2 := HA.out.next hfl
          rw [HE.out] at HA2
          have HA3 := Lib.hid HA2
          clear hbg HN HA2
          go_wp2_with fail
          refine HC.out.mono ?_
          rintro e _ ⟨rfl, rfl⟩
          go_wp2_with (at_builtin; refine wpList_append_own _ rfl _ _ 60 rfl w.heap.size 52 i0 (.agg #[.int .i64 0, .int .i64 0]) 2 16 Tryd.underlying60 hi hz0 hz1 hz2 rfl (by decide) _ _ _ rfl (hrow.alloc _) ⟨wr.heap.size, 0, none⟩ 1 1 [.int .i64 (f : Int), .int .i64 (i : Int)] rfl rfl (two_src (World.alloc_heap_new wr _)) (by simp [Value.oneCell']) (by unfold maxLen; omega) (by omega) (by simp; omega) ?_; intro v' w1 hown' hgrow _; obtain ⟨g', cap', rfl⟩ := ownsRow_succ hown')
          go_roundw
          case rel => exact ⟨pre ++ [(f, i)], i, i + 1, (i : Int), (i : Int) + 1, rfl, rfl, rfl, by omega, HA3, hil, .inr ⟨by omega, rfl⟩, by simpa [spc] using hown', span_app hrow hb hgrow⟩
          case measure => simp [intOf]; omega
    · obtain rfl : i = s.size := by omega
      subst ey
      rcases HN with ⟨hi0, rfl⟩ | ⟨hfi, HN⟩
      · have HS := Lib.hid (HA.out.done (by omega))
        have hz : ((s.size : Nat) : Int) = 0 := by omega
        rw [hz]
        go_wp2
        go_ret
        exact ⟨_, rfl, by rw [← HS.out]; exact hrow, hb⟩
      · subst ex
        have hm := HA.out.more hfi
        have hpl := hlen.out
        have HE : Hid (CP.stop s f = s.size) := Lib.hid (by rw [← HN, Nat.sub_self]; rfl)
        have HA2 := HA.out.next hfi
        rw [HE.out] at HA2
        have HS := Lib.hid (HA2.done (Nat.le_refl _))
        have hsp : (0 : Int) < (s.size : Int) := by omega
        clear HA2 HE HN
        go_wp2_with (at_builtin; refine wpList_append_own _ rfl _ _ 60 rfl w.heap.size 52 i0 (.agg #[.int .i64 0, .int .i64 0]) 2 16 Tryd.underlying60 hi hz0 hz1 hz2 rfl (by decide) _ _ _ rfl (hrow.alloc _) ⟨wr.heap.size, 0, none⟩ 1 1 [.int .i64 (f : Int), .int .i64 (s.size : Int)] rfl rfl (two_src (World.alloc_heap_new wr _)) (by simp [Value.oneCell']) (by unfold maxLen; omega) (by omega) (by simp; omega) ?_; intro v' w1 hown' hgrow _; obtain ⟨g', cap', rfl⟩ := ownsRow_succ hown')
        go_ret
        exact ⟨_, rfl, by rw [← HS.out]; simpa [spc] using hown', span_app hrow hb hgrow⟩
end Go.Proofs.YtbgmbcngkmlfeaaDoor
