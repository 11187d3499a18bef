/- Texts merged: SgnPlain, SgnRef, SgnLvs. No conditions. -/
import Derived.Test.YtinkhgmdeldniaaDigFacts
import Derived.Test.YtinkhgmdeldniaaWireList
/- Plain facts: signatures. No conditions. -/
section
namespace Go.Proofs.Ytinkhgmdeldniaa.SG
set_option maxRecDepth 100000
set_option linter.unusedVariables false
open Go.RowKit
/-- A string after n digests. -/
def lk (s : ByteArray) : Nat → ByteArray
  | 0 => s
  | n + 1 => DG.Of (lk s n)
theorem lk_size (s : ByteArray) (n : Nat) : (lk s n).size ≤ s.size + 8 := by
  cases n with
  | zero => simp [lk]
  | succ n => rw [lk, DG.Of_size]; omega
theorem lk_small {s : ByteArray} (h : s.size = 8) (n : Nat) : (lk s n).size = 8 := by
  cases n with
  | zero => exact h
  | succ n => rw [lk, DG.Of_size]
/-- What the first link of a chain is a digest of. -/
def head (seed : ByteArray) (i c : Int) : ByteArray := W.WP.S (W.WP.text seed.data.toList) ++ W.WP.S (W.WP.int i) ++ W.WP.S (W.WP.int c)
theorem head_size (seed : ByteArray) (i c : Int) : (head seed i c).size ≤ seed.size + 30 := by
  unfold head
  have h1 := W.WP.text_len seed.data.toList
  have h2 := W.WP.int_size i
  have h3 := W.WP.int_size c
  have h4 : (W.WP.S (W.WP.text seed.data.toList)).size = (W.WP.text seed.data.toList).length := W.WP.S_size _
  have h5 : seed.data.toList.length = seed.size := Array.length_toList
  rw [ByteArray.size_append, ByteArray.size_append]
  omega
def link (seed : ByteArray) (i c : Int) (n : Nat) : ByteArray := lk (DG.Of (head seed i c)) n
theorem link_size (seed : ByteArray) (i c : Int) (n : Nat) : (link seed i c n).size = 8 := lk_small (DG.Of_size _) n
/-- The last links of the first k chains. -/
def ends (seed : ByteArray) (i : Int) : Nat → ByteArray
  | 0 => ⟨#[]⟩
  | k + 1 => ends seed i k ++ link seed i (k : Int) 15
theorem ends_size (seed : ByteArray) (i : Int) : ∀ k, (ends seed i k).size = 8 * k
  | 0 => rfl
  | k + 1 => by rw [ends, ByteArray.size_append, ends_size seed i k, link_size]; omega
def leaf (seed : ByteArray) (i : Int) : ByteArray := DG.Of (ends seed i 18)
def leaves (seed : ByteArray) (n : Nat) : List ByteArray := (List.range n).map fun (i : Nat) => leaf seed (i : Int)
theorem leaves_succ (seed : ByteArray) (n : Nat) : leaves seed (n + 1) = leaves seed n ++ [leaf seed (n : Int)] := by unfold leaves; rw [List.range_succ, List.map_append]; rfl
theorem leaves_len (seed : ByteArray) (n : Nat) : (leaves seed n).length = n := by simp [leaves]
theorem leaves_small (seed : ByteArray) (n : Nat) : ∀ s ∈ leaves seed n, s.size < 2147483648 := by
  intro s hs
  unfold leaves at hs
  obtain ⟨i, _, rfl⟩ := List.mem_map.1 hs
  unfold leaf
  rw [DG.Of_size]
  omega
end Go.Proofs.Ytinkhgmdeldniaa.SG
end
/- The reference's links and leaves. No conditions. -/
section
namespace Go.Proofs.Ytinkhgmdeldniaa
set_option maxRecDepth 100000
set_option linter.unusedVariables false
open Go.RowKit
set_option maxHeartbeats 4000000 in
theorem rlinks_any (s : ByteArray) (n : Nat) (w : World) (hs : s.size ≤ 1000000) (hn : n ≤ 1000000) : Calls Try.prog 26 #[.string s, .int .i64 (n : Int)] w fun e w' => e = .returned (.string (SG.lk s n)) ∧ Below w.heap.size w w' := by
  have HO : Hid (∀ (k : Nat) (V : World), Calls Try.prog 28 #[.string (SG.lk s k)] V fun e w' => e = .returned (.string (SG.lk s (k + 1))) ∧ Below V.heap.size V w') := Lib.hid fun k V => rOf_any _ V (by have := SG.lk_size s k; unfold maxLen; omega)
  clear hs
  go_enter Try.func26, Try.ntmps26
  go_wp2
  go_loopw [0, 5] (fun v0 v5 wr => ∃ k : Nat, v0 = .string (SG.lk s k) ∧ v5 = .int .i64 (k : Int) ∧ k ≤ n ∧ Below w.heap.size w wr) (fun _ v _ => n - (intOf v).toNat)
  case atStart => exact ⟨0, rfl, rfl, Nat.zero_le _, Below.refl _ _⟩
  case round =>
    obtain ⟨k, rfl, rfl, hk, hb⟩ := hrel
    obtain ⟨y, hy⟩ : ∃ y, SG.lk s k = y := ⟨_, rfl⟩
    have HOK := HO.out k wr
    obtain ⟨z, hz⟩ : ∃ z, SG.lk s (k + 1) = z := ⟨_, rfl⟩
    rw [hy, hz] at HOK
    have HK := Lib.hid HOK
    have HZ := Lib.hid hz
    have HY := Lib.hid hy
    rw [hy]
    clear HOK hz hy
    by_cases hkn : k < n
    · have hki : (k : Int) < (n : Int) := by omega
      go_wp2_with fail
      refine HK.out.mono ?_
      rintro e w1 ⟨rfl, k1⟩
      have HB := Lib.hid (bnext hb k1)
      go_wp2
      go_roundw
      case rel => exact ⟨k + 1, by rw [HZ.out], by go_num, hkn, HB.out⟩
      case measure => simp [intOf]; omega
    · have hki : ¬ (k : Int) < (n : Int) := by omega
      obtain rfl : n = k := by omega
      go_wp2
      go_ret
      exact ⟨by rw [HY.out]; rfl, hb⟩
set_option maxHeartbeats 4000000 in
theorem rlink_any (seed : ByteArray) (i c : Int) (n : Nat) (w : World) (hs : seed.size ≤ 1000000) (hi : -1000000 ≤ i ∧ i ≤ 1000000) (hc : -1000000 ≤ c ∧ c ≤ 1000000) (hn : n ≤ 1000000) : Calls Try.prog 25 #[.string seed, .int .i64 i, .int .i64 c, .int .i64 (n : Int)] w fun e w' => e = .returned (.string (SG.link seed i c n)) ∧ Below w.heap.size w w' := by
  obtain ⟨a, ha⟩ : ∃ a, W.WP.S (W.WP.text seed.data.toList) = a := ⟨_, rfl⟩
  obtain ⟨b, hb⟩ : ∃ b, W.WP.S (W.WP.int i) = b := ⟨_, rfl⟩
  obtain ⟨d, hd⟩ : ∃ d, W.WP.S (W.WP.int c) = d := ⟨_, rfl⟩
  have hh := SG.head_size seed i c
  have hhd : SG.head seed i c = a ++ b ++ d := by unfold SG.head; rw [ha, hb, hd]
  rw [hhd] at hh
  have sa : a.size ≤ seed.size + 30 := by rw [ByteArray.size_append, ByteArray.size_append] at hh; omega
  have sb : b.size ≤ 10 := by rw [← hb]; exact W.WP.int_size i
  have sd : d.size ≤ 10 := by rw [← hd]; exact W.WP.int_size c
  obtain ⟨st, hst⟩ : ∃ st, DG.Of (a ++ b ++ d) = st := ⟨_, rfl⟩
  have HA : Hid (∀ V, Calls Try.prog 53 #[.string seed] V fun e w' => e = .returned (.string a) ∧ Below V.heap.size V w') := Lib.hid fun V => by rw [← ha]; exact W.rtext_any seed V (by omega)
  have HI : Hid (∀ V, Calls Try.prog 54 #[.int .i64 i] V fun e w' => e = .returned (.string b) ∧ Below V.heap.size V w') := Lib.hid fun V => by rw [← hb]; exact W.rint_any i V (by omega) (by omega)
  have HC : Hid (∀ V, Calls Try.prog 54 #[.int .i64 c] V fun e w' => e = .returned (.string d) ∧ Below V.heap.size V w') := Lib.hid fun V => by rw [← hd]; exact W.rint_any c V (by omega) (by omega)
  have HO : Hid (∀ V, Calls Try.prog 28 #[.string (a ++ b ++ d)] V fun e w' => e = .returned (.string st) ∧ Below V.heap.size V w') := Lib.hid fun V => by rw [← hst]; exact rOf_any _ V (by unfold maxLen; omega)
  have hs8 : st.size = 8 := by rw [← hst]; rfl
  obtain ⟨z, hz⟩ : ∃ z, SG.lk st n = z := ⟨_, rfl⟩
  have HL : Hid (∀ V, Calls Try.prog 26 #[.string st, .int .i64 (n : Int)] V fun e w' => e = .returned (.string z) ∧ Below V.heap.size V w') := Lib.hid fun V => by rw [← hz]; exact rlinks_any st n V (by omega) hn
  have HZ : Hid (SG.link seed i c n = z) := Lib.hid (by unfold SG.link; rw [hhd, hst]; exact hz)
  clear ha hb hd hh hhd hst hs8 hz hi hc hn
  have acc : Below w.heap.size w w := Below.refl _ _
  go_enter Try.func25, Try.ntmps25
  go_wp2_with fail
  refine (HA.out _).mono ?_
  rintro e w1 ⟨rfl, k1⟩
  replace acc := bnext acc k1
  clear k1
  go_wp2_with fail
  refine (HI.out _).mono ?_
  rintro e w2 ⟨rfl, k2⟩
  replace acc := bnext acc k2
  clear k2
  go_wp2_with fail
  refine (HC.out _).mono ?_
  rintro e w3 ⟨rfl, k3⟩
  replace acc := bnext acc k3
  clear k3
  go_wp2_with fail
  refine (HO.out _).mono ?_
  rintro e w4 ⟨rfl, k4⟩
  replace acc := bnext acc k4
  clear k4
  go_wp2_with fail
  refine (HL.out _).mono ?_
  rintro e w5 ⟨rfl, k5⟩
  replace acc := bnext acc k5
  clear k5
  go_wp2
  go_ret
  exact ⟨by rw [HZ.out]; rfl, acc⟩
end Go.Proofs.Ytinkhgmdeldniaa
end
/- The reference's leaves. No conditions. -/
section
namespace Go.Proofs.Ytinkhgmdeldniaa
set_option maxRecDepth 100000
set_option linter.unusedVariables false
open Go.RowKit
set_option maxHeartbeats 4000000 in
theorem rleaf_any (seed : ByteArray) (i : Int) (w : World) (hs : seed.size ≤ 1000000) (hi : -1000000 ≤ i ∧ i ≤ 1000000) : Calls Try.prog 69 #[.string seed, .int .i64 i] w fun e w' => e = .returned (.string (SG.leaf seed i)) ∧ Below w.heap.size w w' := by
  have HL : Hid (∀ (c : Nat) (V : World), c < 18 → Calls Try.prog 25 #[.string seed, .int .i64 i, .int .i64 (c : Int), .int .i64 15] V fun e w' => e = .returned (.string (SG.link seed i (c : Int) 15)) ∧ Below V.heap.size V w') := Lib.hid fun c V hc => rlink_any seed i c 15 V hs hi (by omega) (by omega)
  have HO : Hid (∀ V, Calls Try.prog 28 #[.string (SG.ends seed i 18)] V fun e w' => e = .returned (.string (SG.leaf seed i)) ∧ Below V.heap.size V w') := Lib.hid fun V => rOf_any _ V (by have := SG.ends_size seed i 18; unfold maxLen; omega)
  clear hs hi
  go_enter Try.func69, Try.ntmps69
  go_wp2
  go_loopw [5, 6] (fun v5 v6 wr => ∃ c : Nat, v5 = .string (SG.ends seed i c) ∧ v6 = .int .i64 (c : Int) ∧ c ≤ 18 ∧ Below w.heap.size w wr) (fun _ v _ => 18 - (intOf v).toNat)
  case atStart => exact ⟨0, rfl, rfl, Nat.zero_le _, Below.refl _ _⟩
  case round =>
    obtain ⟨c, rfl, rfl, hc, hb⟩ := hrel
    have hsz := SG.ends_size seed i c
    have HE : Hid (SG.ends seed i (c + 1) = SG.ends seed i c ++ SG.link seed i (c : Int) 15) := Lib.hid rfl
    have hlz := SG.link_size seed i (c : Int) 15
    by_cases hcn : c < 18
    · have hki : (c : Int) < 18 := by omega
      have HLC := Lib.hid (HL.out c wr hcn)
      obtain ⟨y, hy⟩ : ∃ y, SG.ends seed i c = y := ⟨_, rfl⟩
      obtain ⟨z, hz⟩ : ∃ z, SG.link seed i (c : Int) 15 = z := ⟨_, rfl⟩
      have hys : y.size ≤ 144 := by rw [← hy]; omega
      rw [hz] at hlz
      rw [hy] at hsz
      have HY := Lib.hid hy
      have HZ := Lib.hid hz
      rw [hy]
      rw [hz] at HLC
      clear hy hz hsz
      go_wp2_with fail
      refine HLC.out.mono ?_
      rintro e w1 ⟨rfl, k1⟩
      have HB := Lib.hid (bnext hb k1)
      go_wp2
      go_roundw
      case rel => exact ⟨c + 1, by rw [HE.out, HY.out, HZ.out], by go_num, hcn, HB.out⟩
      case measure => simp [intOf]; omega
    · obtain rfl : c = 18 := by omega
      obtain ⟨y, hy⟩ : ∃ y, SG.ends seed i 18 = y := ⟨_, rfl⟩
      obtain ⟨z, hz⟩ : ∃ z, SG.leaf seed i = z := ⟨_, rfl⟩
      have HZ := Lib.hid hz
      rw [hy, hz] at HO
      rw [hy]
      clear hy hz hsz HE HL hlz
      go_wp2_with fail
      refine (HO.out _).mono ?_
      rintro e w1 ⟨rfl, k1⟩
      go_wp2
      go_ret
      exact ⟨by rw [HZ.out]; rfl, bnext hb k1⟩
set_option maxHeartbeats 4000000 in
theorem rleaves_any (seed : ByteArray) (n : Nat) (w : World) (hs : seed.size ≤ 1000000) (hn : n ≤ 1000) : Calls Try.prog 37 #[.string seed, .int .i64 (n : Int)] w fun e w' => ∃ v, e = .returned v ∧ w'.ownsRow w.heap.size 9 1 v n ((SG.leaves seed n).map Value.string) ∧ Below w.heap.size w w' := by
  obtain ⟨i0, hif, hz0, hz1, hz2⟩ := info_parts info_string
  have HL : Hid (∀ (i : Nat) (V : World), i < n → Calls Try.prog 69 #[.string seed, .int .i64 (i : Int)] V fun e w' => e = .returned (.string (SG.leaf seed (i : Int))) ∧ Below V.heap.size V w') := Lib.hid fun i V hi => rleaf_any seed i V hs (by omega)
  clear hs
  go_enter Try.func37, Try.ntmps37
  go_wp2
  go_loopw [5, 6] (fun v5 v6 wr => ∃ i : Nat, wr.ownsRow w.heap.size 9 1 v5 i ((SG.leaves seed i).map Value.string) ∧ v6 = .int .i64 (i : Int) ∧ i ≤ n ∧ Below w.heap.size w wr) (fun _ v _ => n - (intOf v).toNat)
  case atStart => exact ⟨0, World.ownsRow_nil _ _ _ _, rfl, Nat.zero_le _, Below.refl _ _⟩
  case round =>
    obtain ⟨i, hrow, rfl, hi, hb⟩ := hrel
    obtain ⟨va, vc, rfl⟩ := own_shape hrow
    have HROW := Lib.hid hrow
    have HB := Lib.hid hb
    have hbs := hb.size
    clear hrow hb
    by_cases hin : i < n
    · have hki : (i : Int) < (n : Int) := by omega
      have HLC := Lib.hid (HL.out i wr hin)
      obtain ⟨z, hz⟩ : ∃ z, SG.leaf seed (i : Int) = z := ⟨_, rfl⟩
      have HZ : Hid (SG.leaves seed (i + 1) = SG.leaves seed i ++ [z]) := Lib.hid (by rw [SG.leaves_succ, hz])
      rw [hz] at HLC
      clear hz
      go_wp2_with fail
      refine HLC.out.mono ?_
      rintro e w1 ⟨rfl, k1⟩
      have HR1 := Lib.hid (own_kept HROW.out k1)
      have HB1 := Lib.hid (bnext HB.out k1)
      have hs1 := HB1.out.size
      clear k1
      go_wp2_with (at_builtin; refine wpList_app _ rfl _ _ 42 rfl w.heap.size 9 i0 (.string ⟨#[]⟩) 16 Try.underlying42 hif hz0 hz1 hz2 rfl _ _ _ rfl (HR1.out.alloc _) _ [.string z] rfl (Src.one (World.cell?_alloc_at _ _ _ _ rfl)) (by simp [Value.oneCell']) ?d1 ?d2 ?d3 ?_)
      case d1 => (try unfold maxLen); (try simp only [List.length_cons, List.length_nil]); omega
      case d2 => (try simp only [List.length_cons, List.length_nil]); omega
      case d3 => simp; omega
      intro v7 w7 hown7 hgrow7 _
      have HB7 : Hid (Below w.heap.size w w7) := Lib.hid ((HB1.out.alloc hs1 _).grown hgrow7 (by simp; omega) (fun k e => (HR1.out.lt k e).1))
      have HO7 := Lib.hid hown7
      obtain ⟨g7, c7, rfl⟩ := ownsRow_succ hown7
      clear hown7 hgrow7
      go_wp2
      go_roundw
      case rel => exact ⟨i + 1, by rw [HZ.out, List.map_append]; exact HO7.out, by go_num, hin, HB7.out⟩
      case measure => simp [intOf]; omega
    · have hki : ¬ (i : Int) < (n : Int) := by omega
      obtain rfl : n = i := by omega
      go_wp2
      go_ret
      exact ⟨_, rfl, HROW.out, HB.out⟩
end Go.Proofs.Ytinkhgmdeldniaa
end
