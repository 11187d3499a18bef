/- What the reference makes a signature of. No conditions. -/
import Derived.Test.YtinkhgmdeldniaaSgnDig
import Derived.Test.YtinkhgmdeldniaaWireArgs
namespace Go.Proofs.Ytinkhgmdeldniaa.SG
set_option maxRecDepth 100000
open Go.RowKit
def txs (l : List ByteArray) : ByteArray := W.WP.S (W.WP.texts (l.map (·.data.toList)))
def parts (i : Int) (links proof : List ByteArray) : ByteArray := W.WP.S (W.WP.int i) ++ txs links ++ txs proof
theorem sv_map (l : List ByteArray) : (l.map (·.data.toList)).map W.sv = l.map Value.string := by
  rw [List.map_map]
  apply List.map_congr_left
  intro s _
  show Value.string (W.WP.S s.data.toList) = .string s
  congr 1
theorem txs_size {l : List ByteArray} (hs : ∀ s ∈ l, s.size ≤ 100000) (hl : l.length ≤ 1000) : (txs l).size ≤ 200000000 := by
  unfold txs
  rw [W.WP.S_size]
  unfold W.WP.texts
  have h1 := W.WP.flat_len W.WP.text 100010 (l.map (·.data.toList)) (fun x hx => by
    obtain ⟨s, h, rfl⟩ := List.mem_map.1 hx
    have := W.WP.text_len s.data.toList
    have h2 := hs s h
    have h3 : s.data.toList.length = s.size := Array.length_toList
    omega)
  have h2 := W.WP.int_len (l.map (·.data.toList)).length
  rw [List.length_append]
  rw [List.length_map] at h1
  omega
end Go.Proofs.Ytinkhgmdeldniaa.SG
namespace Go.Proofs.Ytinkhgmdeldniaa
set_option maxRecDepth 100000
set_option linter.unusedVariables false
open Go.RowKit
theorem rtxs_any (v : Value) (l : List ByteArray) (w : World) (hv : RowAt w v (l.map Value.string)) (hs : ∀ s ∈ l, s.size ≤ 100000) (hl : l.length ≤ 1000) : Calls Try.prog 63 #[v] w fun e w' => e = .returned (.string (SG.txs l)) ∧ Below w.heap.size w w' := by
  obtain ⟨L, hL⟩ : ∃ L : List (List UInt8), l.map (·.data.toList) = L := ⟨_, rfl⟩
  have hrow : W.RowAt w v (L.map W.sv) := by
    rw [← hL, SG.sv_map]
    exact hv
  have hll : L.length ≤ 1000 := by rw [← hL, List.length_map]; exact hl
  have hx : ∀ x, x ∈ L → x.length ≤ 100000 := by
    intro x hx
    rw [← hL] at hx
    obtain ⟨s, h, rfl⟩ := List.mem_map.1 hx
    have h2 := hs s h
    have h3 : s.data.toList.length = s.size := Array.length_toList
    omega
  have hz : SG.txs l = W.WP.S (W.WP.texts L) := by unfold SG.txs; rw [hL]
  rw [hz]
  clear hL hz hs hv
  exact W.rtexts_any v L 100010 w hrow (fun x h => by have := W.WP.text_len x; have := hx x h; omega) (fun x h => by have := hx x h; omega) (by omega) (by omega)
set_option maxHeartbeats 4000000 in
theorem rparts_any (i : Int) (u v : Value) (l k : List ByteArray) (w : World) (hi : -9223372036854775808 ≤ i ∧ i ≤ 9223372036854775807) (hu : RowAt w u (l.map Value.string)) (hv : RowAt w v (k.map Value.string)) (hs : ∀ s ∈ l, s.size ≤ 100000) (hl : l.length ≤ 1000) (hs2 : ∀ s ∈ k, s.size ≤ 100000) (hl2 : k.length ≤ 1000) :
    Calls Try.prog 32 #[.int .i64 i, u, v] w fun e w' => e = .returned (.string (SG.parts i l k)) ∧ Below w.heap.size w w' := by
  obtain ⟨a, ha⟩ : ∃ a, W.WP.S (W.WP.int i) = a := ⟨_, rfl⟩
  obtain ⟨b, hb⟩ : ∃ b, SG.txs l = b := ⟨_, rfl⟩
  obtain ⟨d, hd⟩ : ∃ d, SG.txs k = d := ⟨_, rfl⟩
  have sa : a.size ≤ 10 := by rw [← ha]; exact W.WP.int_size i
  have sb : b.size ≤ 200000000 := by rw [← hb]; exact SG.txs_size hs hl
  have sd : d.size ≤ 200000000 := by rw [← hd]; exact SG.txs_size hs2 hl2
  have HZ : Hid (SG.parts i l k = a ++ b ++ d) := Lib.hid (by unfold SG.parts; rw [ha, hb, hd])
  have HI := Lib.hid (fun V => W.rint_any i V hi.1 hi.2)
  rw [ha] at HI
  have HT : Hid (∀ V, Below w.heap.size w V → Calls Try.prog 63 #[u] V fun e w' => e = .returned (.string b) ∧ Below V.heap.size V w') := Lib.hid fun V hV => by rw [← hb]; exact rtxs_any u l V (hu.keep hV) hs hl
  have HT2 : Hid (∀ V, Below w.heap.size w V → Calls Try.prog 63 #[v] V fun e w' => e = .returned (.string d) ∧ Below V.heap.size V w') := Lib.hid fun V hV => by rw [← hd]; exact rtxs_any v k V (hv.keep hV) hs2 hl2
  obtain ⟨ua, uc, rfl, hu0⟩ := hu.out
  obtain ⟨va, vc, rfl, hv0⟩ := hv.out
  obtain ⟨n, hn⟩ : ∃ n, (l.map Value.string).length = n := ⟨_, rfl⟩
  obtain ⟨n2, hn2⟩ : ∃ n, (k.map Value.string).length = n := ⟨_, rfl⟩
  rw [hn] at HT ⊢
  rw [hn2] at HT2 ⊢
  clear ha hb hd hi hs hl hs2 hl2 hu0 hv0 hu hv hn hn2
  have acc : Below w.heap.size w w := Below.refl _ _
  go_enter Try.func32, Try.ntmps32
  go_wp2_with fail
  refine (HI.out _).mono ?_
  rintro e w1 ⟨rfl, k1⟩
  go_wp2_with fail
  refine (HT.out _ (bnext acc k1)).mono ?_
  rintro e w2 ⟨rfl, k2⟩
  go_wp2_with fail
  refine (HT2.out _ (bnext (bnext acc k1) k2)).mono ?_
  rintro e w3 ⟨rfl, k3⟩
  go_wp2
  go_ret
  exact ⟨by rw [HZ.out]; rfl, bnext (bnext (bnext acc k1) k2) k3⟩
end Go.Proofs.Ytinkhgmdeldniaa
