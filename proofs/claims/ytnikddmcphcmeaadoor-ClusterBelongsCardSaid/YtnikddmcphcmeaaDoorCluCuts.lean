/- The contract of cuts. -/
import Derived.Test.YtnikddmcphcmeaaDoorCluMade
namespace Go.Proofs.YtnikddmcphcmeaaDoor
open Go.RowKit Go.Shelf
namespace CP
/-- The pieces from f on that end at these places. -/
def pcs : Nat → List Nat → List (Nat × Nat)
  | _, [] => []
  | f, t :: l => (f, t) :: pcs t l
def lst (L : List Nat) : Nat := L.getLast?.getD 0
theorem pcs_snoc : ∀ (f : Nat) (L : List Nat) (t : Nat), pcs f (L ++ [t]) = pcs f L ++ [(L.getLast?.getD f, t)]
  | f, [], t => rfl
  | f, u :: L, t => by
    show (f, u) :: pcs u (L ++ [t]) = (f, u) :: (pcs u L ++ _)
    rw [pcs_snoc u L t]
    cases L with
    | nil => rfl
    | cons a L => simp [List.getLast?_cons]
theorem pcs_length : ∀ (f : Nat) (L : List Nat), (pcs f L).length = L.length
  | _, [] => rfl
  | f, t :: L => by simp [pcs, pcs_length t L]
end CP
set_option maxRecDepth 100000 in
set_option maxHeartbeats 4000000 in
theorem cuts_any (s : ByteArray) (v : Value) (L : List Nat) (g : Nat × Nat) (w : World) (hl : Laid w g) (hs : s.size ≤ 1000000000) (hv : RowAt w v (L.map fun x : Nat => .int .i64 (x : Int))) (hL : L.length ≤ 1000) :
    Calls Tryd.prog 21 #[.string s, v] w fun e W' => e = .returned (.bool (decide (CP.split s = CP.pcs 0 L))) ∧ Below w.heap.size w W' := by
  obtain ⟨i0, hi, hz0, hz1, hz2⟩ := info_parts info_span
  have HL : Hid (∀ B, Below w.heap.size w B → Laid B g) := Lib.hid fun B hb => hl.mono hb
  obtain ⟨ao, ac, rfl, hr⟩ := hv
  rw [List.length_map]
  have hlen : (CP.split s).length ≤ 1000000000 := Nat.le_trans (CP.split_length s) hs
  go_enter Tryd.func21, Tryd.ntmps21
  go_wp2
  go_loopw [5, 6, 11] (fun v5 v6 v11 wr => ∃ k : Nat, v6 = .int .i64 (CP.lst (L.take k) : Int) ∧ v11 = .int .i64 k ∧ k ≤ L.length ∧ wr.ownsRow w.heap.size 30 2 v5 (L.take k).length (spc (CP.pcs 0 (L.take k))) ∧ Below w.heap.size w wr) (fun _ _ v _ => L.length - (intOf v).toNat)
  case atStart => exact ⟨0, rfl, rfl, Nat.zero_le _, World.ownsRow_nil _ _ _ _, Below.refl _ _⟩
  case round =>
    obtain ⟨k, rfl, rfl, hk, hrow, hb⟩ := hrel
    have hbs := hb.size
    by_cases h1 : k < L.length
    · have h1i : (k : Int) < (L.length : Int) := by omega
      obtain ⟨x, hx⟩ : ∃ x, L[k]? = some x := ⟨L[k], List.getElem?_eq_getElem h1⟩
      have hlk : (L.take k).length = k := by simp; omega
      have ht : L.take (k + 1) = L.take k ++ [x] := by rw [List.take_add_one, hx]; rfl
      obtain ⟨F, hF⟩ : ∃ F, CP.lst (L.take k) = F := ⟨_, rfl⟩
      have hF1 : CP.lst (L.take (k + 1)) = x := by unfold CP.lst; rw [ht]; simp
      have hP : CP.pcs 0 (L.take (k + 1)) = CP.pcs 0 (L.take k) ++ [(F, x)] := by rw [ht, CP.pcs_snoc, ← hF]; rfl
      rw [hlk] at hrow
      generalize CP.pcs 0 (L.take k) = P at hrow hP
      have HP := Lib.hid hP
      have HF1 := Lib.hid hF1
      have HT := Lib.hid ht
      rw [hF]
      clear hF hlk hP hF1 ht
      rcases hr with hr | ⟨g', o, rfl, hg, hc⟩
      · simp at hr; subst hr; simp at h1
      · have c1 := hc k (by simpa using h1)
        rw [show ((L.map fun x : Nat => Value.int .i64 (x : Int)).getD k (.bool false)) = .int .i64 (x : Int) by simp [List.getD, hx]] at c1
        replace c1 := (hb.cell (p := ⟨g', o + k, none⟩) hg).trans c1
        clear hc hx
        go_wp2_with (at_builtin; refine wpList_append_own _ rfl _ _ 26 rfl w.heap.size 30 i0 (.agg #[.int .i64 0, .int .i64 0]) 2 16 Tryd.underlying26 hi hz0 hz1 hz2 rfl (by decide) _ _ _ rfl (hrow.alloc _) ⟨wr.heap.size, 0, none⟩ 1 1 [.int .i64 (F : Int), .int .i64 (x : Int)] rfl rfl (two_src (World.alloc_heap_new wr _)) (by simp [Value.oneCell']) (by unfold maxLen; omega) (by omega) (by simp; omega) ?_; intro v' w1 hown' hgrow _; obtain ⟨g3, cap', rfl⟩ := ownsRow_succ hown')
        go_roundw
        case rel => exact ⟨k + 1, by rw [HF1.out], by go_num, h1, by rw [HP.out, show (L.take (k + 1)).length = k + 1 by simp; omega]; simpa [spc] using hown', span_app hrow hb hgrow⟩
        case measure => simp [intOf]; omega
    · obtain rfl : k = L.length := by omega
      rw [List.take_length] at hrow
      have hsrc := own_srcP (l := CP.pcs 0 L) (by rw [CP.pcs_length]; exact hrow)
      have HS := Lib.hid (split_any s g wr (HL.out _ hb) hs)
      have HSR := Lib.hid hsrc
      have hpl := CP.pcs_length 0 L
      generalize hP : CP.pcs 0 L = P at hpl HSR
      clear hr hrow hsrc
      go_wp2_with fail
      refine HS.out.mono ?_
      rintro e w2 ⟨v2, rfl, hown2, hb2⟩
      have hsrc2 := own_srcP hown2
      have HSM := Lib.hid (rsame_any _ _ _ _ w2 hsrc2 (HSR.out.keep hb2) hlen)
      clear hown2 hsrc2
      go_wp2_with fail
      refine HSM.out.mono ?_
      rintro e w3 ⟨rfl, hb3⟩
      go_wp2
      go_ret
      exact ⟨by rw [← hP]; rfl, bnext (bnext hb hb2) hb3⟩
end Go.Proofs.YtnikddmcphcmeaaDoor
