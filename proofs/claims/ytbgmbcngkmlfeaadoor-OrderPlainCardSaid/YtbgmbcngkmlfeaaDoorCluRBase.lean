/- The contracts of the reference's Base and Same. -/
import Derived.Test.YtbgmbcngkmlfeaaDoorCluLst
namespace Go.Proofs.YtbgmbcngkmlfeaaDoor
open Go.RowKit Go.Shelf
set_option maxRecDepth 100000 in
set_option maxHeartbeats 4000000 in
theorem rbase_any (s : ByteArray) (f t : Int) (w : World) (hs : s.size ≤ 1000000000) :
    Calls Tryd.prog 51 #[.string s, .agg #[.int .i64 f, .int .i64 t]] w fun e w' => e = .returned (.int .i64 (CP.base s f t)) ∧ Below w.heap.size w w' := by
  go_enter Tryd.func51, Tryd.ntmps51
  by_cases h0 : f < 0
  · go_wp2
    go_ret
    exact ⟨by rw [CP.base_bad (.inl h0)]; rfl, (Below.refl _ w).alloc (Nat.le_refl _) _⟩
  · by_cases h1 : t ≤ f
    · go_wp2
      go_ret
      exact ⟨by rw [CP.base_bad (.inr (.inl h1))]; rfl, (Below.refl _ w).alloc (Nat.le_refl _) _⟩
    · by_cases h2 : (s.size : Int) < t
      · go_wp2
        go_ret
        exact ⟨by rw [CP.base_bad (.inr (.inr h2))]; rfl, (Below.refl _ w).alloc (Nat.le_refl _) _⟩
      · obtain ⟨f, rfl⟩ : ∃ k : Nat, f = (k : Int) := ⟨f.toNat, by omega⟩
        obtain ⟨t, rfl⟩ : ∃ k : Nat, t = (k : Int) := ⟨t.toNat, by omega⟩
        have hft : f < t := by omega
        have hts : t ≤ s.size := by omega
        go_wp2
        have hft' : Hid (f < t ∧ t ≤ s.size) := Lib.hid ⟨hft, hts⟩
        have HB := Lib.hid ((Below.refl w.heap.size w).alloc (Nat.le_refl _) (.cells #[.int .i64 (f : Int), .int .i64 (t : Int)] 52))
        generalize hW : w.alloc (.cells #[.int .i64 (f : Int), .int .i64 (t : Int)] 52) = W0 at *
        have c0 : W0.cell? ⟨w.heap.size, 0, none⟩ = some (.int .i64 (f : Int)) := by rw [← hW]; exact (two_cells (World.alloc_heap_new w _)).1
        have c1 : W0.cell? ⟨w.heap.size, 1, none⟩ = some (.int .i64 (t : Int)) := by rw [← hW]; exact (two_cells (World.alloc_heap_new w _)).2
        have hWs : w.heap.size < W0.heap.size := by rw [← hW]; simp
        clear hW
        go_loopw [5] (fun v wr => ∃ i : Nat, v = .int .i64 i ∧ f ≤ i ∧ i ≤ t ∧ Hid (CP.fst s (t - i) i = CP.fst s (t - f) f) ∧ Below W0.heap.size W0 wr) (fun v _ => t - (intOf v).toNat)
        case atStart => exact ⟨f, rfl, Nat.le_refl _, by omega, Lib.hid rfl, Below.refl _ _⟩
        case round =>
          obtain ⟨i, rfl, hfi, hit, HN, hb⟩ := hrel
          have d0 := (hb.cell (p := ⟨w.heap.size, 0, none⟩) hWs).trans c0
          have d1 := (hb.cell (p := ⟨w.heap.size, 1, none⟩) hWs).trans c1
          by_cases hi : i < t
          · have hii : (i : Int) < (t : Int) := by omega
            have his : i < s.size := by omega
            have hisi : (i : Int) < (s.size : Int) := by omega
            have hby : (s[i].toNat : Int) ≤ 255 := by have := s[i].toNat_lt; omega
            have HX := Lib.hid (rextends_any ((s[i].toNat : Nat) : Int) wr)
            rw [← CP.ch_at his, show FC.extB (CP.ch s i) = CP.ex s i from rfl] at HX
            cases he : CP.ex s i with
            | true =>
              rw [he] at HX
              have HN2 : Hid (CP.fst s (t - (i + 1)) (i + 1) = CP.fst s (t - f) f) := Lib.hid (by rw [← HN.out, CP.fst_on he (by omega)]; congr 1)
              clear he HN
              rw [CP.ch_at his] at HX
              go_wp2_with fail
              refine HX.out.mono ?_
              rintro e _ ⟨rfl, rfl⟩
              go_wp2_with fail
              go_roundw
              case rel => exact ⟨i + 1, by go_num, by omega, by omega, HN2, hb⟩
              case measure => simp [intOf]; omega
            | false =>
              rw [he] at HX
              have HN2 : Hid (CP.base s f t = (i : Int)) := Lib.hid (CP.base_some hft'.out.1 hft'.out.2 (by rw [← HN.out, CP.fst_here he (by omega)]))
              clear he HN
              rw [CP.ch_at his] at HX
              go_wp2_with fail
              refine HX.out.mono ?_
              rintro e _ ⟨rfl, rfl⟩
              go_wp2_with fail
              go_ret
              exact ⟨by rw [HN2.out]; rfl, HB.out.trans ((hb).mono (by omega))⟩
          · obtain rfl : i = t := by omega
            have HN2 : Hid (CP.base s f i = (f : Int)) := Lib.hid (CP.base_none hft'.out.1 hft'.out.2 (by rw [← HN.out, Nat.sub_self]; rfl))
            clear HN
            go_wp2
            go_ret
            exact ⟨by rw [HN2.out]; rfl, HB.out.trans (hb.mono (by omega))⟩
end Go.Proofs.YtbgmbcngkmlfeaaDoor
