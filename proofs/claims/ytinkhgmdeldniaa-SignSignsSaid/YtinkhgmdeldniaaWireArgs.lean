/- The lists of the reference; and the arguments opened. -/
import Derived.Test.YtinkhgmdeldniaaWireCanon
import Derived.Test.YtinkhgmdeldniaaWireSane
import Derived.Deep.RegionHeld3
import Derived.Deep.AppendLies
import Derived.Test.YtinkhgmdeldniaaWireOpen
import Derived.ProofKit
import Derived.OpenShut
import Derived.ChangeSlices
import Derived.SliceStrings
namespace Go.Proofs.Ytinkhgmdeldniaa.W
set_option maxRecDepth 100000
open Go.RowKit Go.ChangeShapes Go.WideShapes
abbrev sv (s : List UInt8) : Value := .string (WP.S s)
def RRel {α : Type} (w : World) (f : α → List UInt8) (L : List α) (s i : Value) (wr : World) : Prop := ∃ k : Nat, k ≤ L.length ∧ s = .string (WP.S (WP.upto f L.length L k)) ∧ i = .int .i64 k ∧ Below w.heap.size w wr
theorem RRel.out {α : Type} {w : World} {f : α → List UInt8} {L : List α} {s i : Value} {wr : World} (h : RRel w f L s i wr) : ∃ k : Nat, k ≤ L.length ∧ s = .string (WP.S (WP.upto f L.length L k)) ∧ i = .int .i64 k ∧ Below w.heap.size w wr := h
theorem rtext_s (s : List UInt8) (w : World) (hs : s.length ≤ 4611686018427387904) :
    Calls Try.prog 53 #[.string (WP.S s)] w fun e w' => e = .returned (.string (WP.S (WP.text s))) ∧ Below w.heap.size w w' := by
  have := rtext_any (WP.S s) w (by rw [WP.S_size]; exact hs)
  rwa [WP.S_toList] at this

set_option maxRecDepth 100000 in
set_option maxHeartbeats 1000000 in
theorem rtexts_any (v : Value) (L : List (List UInt8)) (m : Nat) (w : World) (hv : RowAt w v (L.map sv)) (hm : ∀ x, x ∈ L → (WP.text x).length ≤ m) (hr : ∀ x, x ∈ L → x.length ≤ 4611686018427387904) (hl : 10 + m * L.length + m ≤ 140737488355328) (hL : L.length ≤ 1000000000000) :
    Calls Try.prog 63 #[v] w fun e w' => e = .returned (.string (WP.S (WP.texts L))) ∧ Below w.heap.size w w' := by
  obtain ⟨a, cap, rfl, hrow⟩ := hv.out
  have HROW := Lib.hid hrow
  clear hrow hv
  have hml : (L.map sv).length = L.length := by simp
  rw [hml]
  have h10 := WP.int_size (L.length : Int)
  go_enter Try.func63, Try.ntmps63
  go_wp2_with (go_at_call 54; refine (rint_any _ _ (by omega) (by omega)).mono ?_; rintro e w1 ⟨rfl, hb1⟩)
  go_loopw [3, 4] (fun s i wr => RRel w WP.text L s i wr) (fun _ i _ => L.length - (intOf i).toNat)
  case atStart => exact ⟨0, Nat.zero_le _, congrArg Value.string (by simp [WP.upto]), rfl, hb1⟩
  case round =>
    obtain ⟨k, hk, rfl, rfl, hb⟩ := hrel.out
    have hul := WP.upto_len WP.text L.length m L k hm
    have hus := WP.S_size (WP.upto WP.text L.length L k)
    by_cases hkl : k < L.length
    · obtain ⟨g, o, rfl, hg, hc⟩ := HROW.out.resolve_left (by intro h; simp at h; simp [h] at hkl)
      have hcell := (hb.cell (p := ⟨g, o + k, none⟩) hg).trans (hc k (by rw [hml]; exact hkl))
      have hki : (k : Int) < (L.length : Int) := by omega
      have h2 := hm L[k] (by simp)
      have hes := WP.S_size (WP.text L[k])
      have HE : Hid (WP.S (WP.upto WP.text L.length L k) ++ WP.S (WP.text L[k]) = WP.S (WP.upto WP.text L.length L (k + 1))) := Lib.hid (by rw [WP.S_append, WP.upto_next _ _ _ _ hkl])
      have h3 : m ≤ m * L.length := Nat.le_mul_of_pos_right _ (by omega)
      obtain ⟨U, hU⟩ : ∃ U, WP.S (WP.upto WP.text L.length L k) = U := ⟨_, rfl⟩
      rw [hU] at hus HE ⊢
      obtain ⟨V, hV⟩ : ∃ V, WP.S (WP.text L[k]) = V := ⟨_, rfl⟩
      rw [hV] at hes HE
      have hUs : U.size + V.size ≤ 140737488355328 := by omega
      go_wp2_with (go_at_call 53; refine (rtext_s _ _ (hr _ (by simp))).mono ?_; rintro e w3 ⟨rfl, hb3⟩)
      go_roundw
      case rel => exact ⟨k + 1, by omega, congrArg Value.string HE.out, by go_num, bnext hb hb3⟩
      case measure => simp [intOf]; omega
    · go_wp2
      go_ret
      exact ⟨rets (congrArg WP.S (WP.upto_all WP.text _ _ _ (by omega))), hb⟩

section
variable {H : Type} {enc : TypeId × Value → H} {W : World}
theorem spot_none {w : World} {a : Addr} {v : Value} (h : w.cell? a = some v) : a = ⟨a.block, a.off, none⟩ := by
  obtain ⟨g, o, s⟩ := a
  cases s with
  | none => rfl
  | some s => exfalso; unfold World.cell? at h; split at h <;> simp at h
theorem row_of {a : Addr} {U : List Value} {n cap : Nat} (hn : n = U.length) (h : ∀ i, i < U.length → W.cell? (a.add i) = some (U.getD i (.bool false))) : RowAt W (.slice (some a) n cap) U := by
  subst hn
  refine ⟨_, cap, rfl, ?_⟩
  rcases Nat.eq_zero_or_pos U.length with e | e
  · exact Or.inl (List.eq_nil_of_length_eq_zero e)
  · right
    have h0 := h 0 e
    have h0' : W.cell? a = some (U.getD 0 (.bool false)) := by simpa [Addr.add] using h0
    have hs := spot_none h0'
    have hlt := World.block_lt_of_cell? W _ h0'
    obtain ⟨g, o, s⟩ := a
    simp at hs
    subst hs
    refine ⟨g, o, rfl, hlt, fun i hi => ?_⟩
    rw [← h i hi]
    cases i <;> simp [Addr.add]
theorem open_l {base : Nat} {v : Value} {d : DataW H} {p : List MemPlace} (hv : Value.okWide Try.prog W .any base 25 v) (h : DataW.Trod enc Try.prog W 0 (fun _ => true) true 25 v d p) :
    ∃ L : List Int, RowAt W v (L.map (Value.int .i64)) ∧ (L.length ≤ maxLen ∧ ∀ a n c, v = .slice a n c → n ≤ c) ∧ ∀ x, x ∈ L → -9223372036854775808 ≤ x ∧ x ≤ 9223372036854775807 := by
  obtain ⟨a0, len, cap, rfl⟩ := okWide_slice Try.underlying25 hv
  obtain ⟨fuel, hf⟩ := h
  rcases open_ints Try.underlying25 Try.underlying3 (by kernel_rfl) hf with ⟨hcs, _⟩ | ⟨a, len', cap', zs, hcs, _, hl, hm, hzl, _, hz, hwf⟩
  · simp [Value.cells] at hcs
    obtain ⟨rfl, rfl, rfl⟩ := hcs
    exact ⟨[], ⟨none, 0, rfl, Or.inl rfl⟩, ⟨by simp [maxLen], fun a n c h => by injection h with _ h2 h3; omega⟩, by simp⟩
  · simp [Value.cells] at hcs
    obtain ⟨rfl, rfl, rfl⟩ := hcs
    rw [if_pos rfl] at hzl
    refine ⟨zs.take len, row_of (by simp; omega) (fun i hi => ?_), ⟨by simp; omega, fun a n c h => by injection h with _ h2 h3; omega⟩, fun x hx => bd64 (hwf x (List.mem_of_mem_take hx))⟩
    have hi' : i < len ∧ i < zs.length := by simp at hi; omega
    rw [hz i hi'.2]
    simp [List.getD, hi'.1, hi'.2]
theorem open_t {base : Nat} {v : Value} {d : DataW H} {p : List MemPlace} (hv : Value.okWide Try.prog W .any base 42 v) (h : DataW.Trod enc Try.prog W 0 (fun _ => true) true 42 v d p) :
    ∃ L : List (List UInt8), RowAt W v (L.map sv) ∧ (L.length ≤ maxLen ∧ ∀ a n c, v = .slice a n c → n ≤ c) ∧ ∀ x, x ∈ L → x.length ≤ maxLen := by
  obtain ⟨a0, len, cap, rfl⟩ := okWide_slice Try.underlying42 hv
  obtain ⟨fuel, hf⟩ := h
  rcases open_strings Try.underlying42 Try.underlying9 (by kernel_rfl) hf with ⟨hcs, _⟩ | ⟨a, len', cap', zs, hcs, _, hl, hm, hzl, _, hz, hwf⟩
  · simp [Value.cells] at hcs
    obtain ⟨rfl, rfl, rfl⟩ := hcs
    exact ⟨[], ⟨none, 0, rfl, Or.inl rfl⟩, ⟨by simp [maxLen], fun a n c h => by injection h with _ h2 h3; omega⟩, by simp⟩
  · simp [Value.cells] at hcs
    obtain ⟨rfl, rfl, rfl⟩ := hcs
    rw [if_pos rfl] at hzl
    refine ⟨(zs.take len).map (fun s => s.data.toList), row_of (by simp; omega) (fun i hi => ?_), ⟨by simp; omega, fun a n c h => by injection h with _ h2 h3; omega⟩, fun x hx => ?_⟩
    · have hi' : i < len ∧ i < zs.length := by simp at hi; omega
      rw [hz i hi'.2]
      simp only [List.getD, List.getElem?_map, List.getElem?_take_of_lt hi'.1, List.getElem?_eq_getElem hi'.2, Option.map_some, Option.getD_some, sv, WP.S_of]
    · obtain ⟨s, hs, rfl⟩ := List.mem_map.1 hx
      have := hwf s (List.mem_of_mem_take hs)
      exact this
end
end Go.Proofs.Ytinkhgmdeldniaa.W
