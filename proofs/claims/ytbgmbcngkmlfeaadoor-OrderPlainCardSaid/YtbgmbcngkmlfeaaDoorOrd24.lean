/- Which characters a script has; characters put behind a text. No conditions. -/
import Derived.Test.YtbgmbcngkmlfeaaDoorOrd23
namespace Go.Proofs.YtbgmbcngkmlfeaaDoor
set_option linter.unusedVariables false
open Go.RowKit Go.Shelf Go.Deep
namespace FC
/-- The characters below k of a script, in order. -/
def upto (s : Int) (k : Nat) : List Int := ((List.range k).map (fun n : Nat => (n : Int))).filter (fun c => decide (scr c = s))
def codes (s : Int) : List Int := upto s 256
theorem upto_hit {s : Int} {k : Nat} (h : scr k = s) : upto s (k + 1) = upto s k ++ [(k : Int)] := by simp [upto, List.range_succ, List.filter_append, h]
theorem upto_miss {s : Int} {k : Nat} (h : ¬ scr k = s) : upto s (k + 1) = upto s k := by simp [upto, List.range_succ, List.filter_append, h]
theorem upto_le (s : Int) (k : Nat) : (upto s k).length ≤ k := by
  have := List.length_filter_le (fun c => decide (scr c = s)) ((List.range k).map (fun n : Nat => (n : Int)))
  simpa [upto] using this
end FC
theorem FC.codes_bd {s d : Int} (h : d ∈ FC.codes s) : FC.scr d = s ∧ 0 ≤ d ∧ d ≤ 255 := by
  unfold FC.codes FC.upto at h
  rw [List.mem_filter, List.mem_map] at h
  obtain ⟨⟨n, hn, rfl⟩, h2⟩ := h
  have := List.mem_range.1 hn
  exact ⟨of_decide_eq_true h2, by omega, by omega⟩
theorem FC.stg_of {c d : Int} (h1 : FC.cls c = FC.cls d) (h2 : FC.scr c = FC.scr d) : FC.stg c = FC.stg d := by unfold FC.stg; rw [h1, h2]
theorem OP.ch_push {o : Int} (h0 : 0 ≤ o) (h1 : o ≤ 255) : CP.ch (ByteArray.empty.push (UInt8.ofNat o.toNat)) 0 = o := by
  rw [CP.ch_at (show 0 < (ByteArray.empty.push (UInt8.ofNat o.toNat)).size from Nat.zero_lt_one)]
  show ((UInt8.ofNat o.toNat).toNat : Int) = o
  rw [UInt8.toNat_ofNat']
  omega
theorem OP.more_like {X Y t : ByteArray} {k : Nat} {o : Int} (hX : X.size = k) (h : ∀ i, i < k → FC.cls (CP.ch X i) = FC.cls (CP.ch t i) ∧ FC.stg (CP.ch X i) = FC.stg (CP.ch t i)) (hy : CP.ch Y 0 = o) (h1 : FC.cls o = FC.cls (CP.ch t k) ∧ FC.stg o = FC.stg (CP.ch t k)) : ∀ i, i < k + 1 → FC.cls (CP.ch (X ++ Y) i) = FC.cls (CP.ch t i) ∧ FC.stg (CP.ch (X ++ Y) i) = FC.stg (CP.ch t i) := by
  intro i hi
  by_cases hk : i < k
  · rw [CP.ch_l (by omega)]; exact h i hk
  · obtain rfl : i = k := by omega
    have := CP.ch_r (s := X) (t := Y) (i := 0)
    rw [Nat.add_zero, hX] at this
    rw [this, hy]; exact h1
set_option maxRecDepth 100000 in
set_option maxHeartbeats 400000 in
theorem rcodes_any (s : Int) (w : World) :
    Calls Tryd.prog 20 #[.int .i64 s] w fun e w' => ∃ v, e = .returned v ∧ w'.ownsRow w.heap.size 3 1 v (FC.codes s).length ((FC.codes s).map (Value.int .i64)) ∧ Below w.heap.size w w' := by
  obtain ⟨i0, hi, hz0, hz1, hz2⟩ := info_parts info_int
  go_enter Tryd.func20, Tryd.ntmps20
  go_wp2
  go_loopw [3, 4] (fun v i wr => ∃ k : Nat, k ≤ 256 ∧ i = .int .i64 k ∧ wr.ownsRow w.heap.size 3 1 v (FC.upto s k).length ((FC.upto s k).map (Value.int .i64)) ∧ Below w.heap.size w wr) (fun _ i _ => 256 - (intOf i).toNat)
  case atStart => exact ⟨0, Nat.zero_le _, rfl, World.ownsRow_nil _ _ _ _, Below.refl _ _⟩
  case round =>
    obtain ⟨k, hk, rfl, hown, hb⟩ := hrel
    by_cases hk2 : k < 256
    · have hle := FC.upto_le s k
      by_cases hs : FC.scr k = s
      · have H := Lib.hid hs
        have hq : (FC.scr k == s) = true := by simp [hs]
        clear hs
        go_wp2_with (first
          | (go_at_call 21; refine (rscript_any _ _).mono ?_; rintro e w1 ⟨rfl, rfl⟩)
          | (at_builtin; refine wpList_append_own _ rfl _ _ 26 rfl w.heap.size 3 i0 (.int .i64 0) 1 8 Tryd.underlying26 hi hz0 hz1 hz2 rfl (by decide) _ _ _ rfl (hown.alloc _) ⟨wr.heap.size, 0, none⟩ 1 1 [.int .i64 k] rfl rfl ?c1 ?c2 ?c3 ?c4 ?c5 ?_))
        case c1 => exact cell_one_new _ _ _
        case c2 => intro u hu; simp at hu; subst hu; rfl
        case c3 => unfold maxLen; omega
        case c4 => omega
        case c5 => have := hb.size; simp; omega
        intro v' w2 hown2 hgrow _
        have hB2 := (hb.alloc (by have := hb.size; omega) (.cells #[.int .i64 k] 3)).grown hgrow (by have := hb.size; simp; omega) (fun j hj => (hown.lt j hj).1)
        clear hgrow hown
        go_wp2
        go_roundw
        case rel => exact ⟨k + 1, by omega, by go_num, by rw [FC.upto_hit H.out]; simpa using hown2, hB2⟩
        case measure => simp [intOf]; omega
      · have H := Lib.hid hs
        have hq : (FC.scr k == s) = false := by simp [hs]
        clear hs
        go_wp2_with (go_at_call 21; refine (rscript_any _ _).mono ?_; rintro e w1 ⟨rfl, rfl⟩)
        go_roundw
        case rel => exact ⟨k + 1, by omega, by go_num, by rw [FC.upto_miss H.out]; exact hown, hb⟩
        case measure => simp [intOf]; omega
    · obtain rfl : k = 256 := by omega
      go_wp2
      go_ret
      exact ⟨_, rfl, hown, hb⟩

end Go.Proofs.YtbgmbcngkmlfeaaDoor
