/- Texts merged: SgnSign, SgnAre, SgnLeaf, Later. No conditions. -/
import Derived.Test.YtinkhgmdeldniaaSgnPart
import Derived.Test.YtinkhgmdeldniaaShelf
import Derived.Handy
import Derived.BigQuiet
import Derived.Deep.QuietTactic
/- The reference's signatures. No conditions. -/
section
namespace Go.Proofs.Ytinkhgmdeldniaa.SG
set_option maxRecDepth 100000
open Go.RowKit
theorem digits_len (msg : ByteArray) : (digits msg).length = 18 := by
  unfold digits
  rw [List.length_append, dgs_len, Array.length_toList]
  rfl
theorem digits_bd (msg : ByteArray) : ∀ x ∈ digits msg, 0 ≤ x ∧ x ≤ 15 := by
  intro x hx
  unfold digits at hx
  have hb := rest_bd (DG.Of msg).data.toList
  have h8 : (DG.Of msg).data.toList.length = 8 := by rw [Array.length_toList]; rfl
  rcases List.mem_append.1 hx with h | h
  · obtain ⟨c, _, h⟩ := List.mem_flatMap.1 h
    have := c.toNat_lt
    simp only [two, List.mem_cons, List.not_mem_nil, or_false] at h
    rcases h with rfl | rfl <;> omega
  · simp only [List.mem_cons, List.not_mem_nil, or_false] at h
    rcases h with rfl | rfl <;> omega
/-- The digit of chain c. -/
def dig (msg : ByteArray) (c : Nat) : Nat := ((digits msg).getD c 0).toNat
theorem dig_at {msg : ByteArray} {c : Nat} (hc : c < 18) : (digits msg)[c]? = some ((dig msg c : Nat) : Int) ∧ dig msg c ≤ 15 := by
  have hl : c < (digits msg).length := by rw [digits_len]; exact hc
  have hm := digits_bd msg _ (List.getElem_mem hl)
  have he : (digits msg).getD c 0 = (digits msg)[c] := by simp [List.getD, hl]
  unfold dig
  rw [he, List.getElem?_eq_getElem hl]
  exact ⟨by congr 1; omega, by omega⟩
/-- The links of a signature, of the first k chains. -/
def lns (seed : ByteArray) (i : Int) (msg : ByteArray) (k : Nat) : List ByteArray := (List.range k).map fun (c : Nat) => link seed i (c : Int) (dig msg c)
theorem lns_succ (seed : ByteArray) (i : Int) (msg : ByteArray) (k : Nat) : lns seed i msg (k + 1) = lns seed i msg k ++ [link seed i (k : Int) (dig msg k)] := by unfold lns; rw [List.range_succ, List.map_append]; rfl
theorem lns_len (seed : ByteArray) (i : Int) (msg : ByteArray) (k : Nat) : (lns seed i msg k).length = k := by simp [lns]
theorem lns_small (seed : ByteArray) (i : Int) (msg : ByteArray) (k : Nat) : ∀ s ∈ lns seed i msg k, s.size = 8 := by
  intro s hs
  unfold lns at hs
  obtain ⟨c, _, rfl⟩ := List.mem_map.1 hs
  exact link_size _ _ _ _
/-- Sign: the string and the number of the error. -/
def sign (seed : ByteArray) (n i : Int) (msg : ByteArray) : ByteArray × Int := if n < 1 ∨ 16 < n ∨ i < 0 ∨ n ≤ i then (⟨#[]⟩, 1) else (parts i (lns seed i msg 18) (DG.prf (leaves seed n.toNat) i.toNat (hOf n.toNat)), 0)
theorem sign_bad {seed msg : ByteArray} {n i : Int} (h : n < 1 ∨ 16 < n ∨ i < 0 ∨ n ≤ i) : sign seed n i msg = (⟨#[]⟩, 1) := if_pos h
theorem sign_good {seed msg : ByteArray} {n i : Nat} (h : 1 ≤ n ∧ n ≤ 16) (hi : i < n) : sign seed (n : Int) (i : Int) msg = (parts (i : Int) (lns seed (i : Int) msg 18) (DG.prf (leaves seed n) i (hOf n)), 0) := by
  unfold sign
  rw [if_neg (by omega)]
  rfl
theorem lvl_le {L : List ByteArray} (h : ∀ s ∈ L, s.size ≤ 8) : ∀ k, (∀ s ∈ (DG.lvl L k).1, s.size ≤ 8) ∧ (DG.lvl L k).2.size ≤ 8
  | 0 => ⟨h, Nat.zero_le _⟩
  | k + 1 => ⟨fun s hs => by
      unfold DG.lvl DG.ufs at hs
      obtain ⟨j, _, rfl⟩ := List.mem_map.1 hs
      unfold DG.uf
      rw [DG.Pair_size]; omega, by
      unfold DG.lvl
      rw [DG.Pair_size]; omega⟩
theorem nbr_small {seed : ByteArray} {n : Nat} (i k : Nat) : ∀ s ∈ DG.prf (leaves seed n) i k, s.size ≤ 100000 := by
  intro s hs
  unfold DG.prf at hs
  obtain ⟨j, _, rfl⟩ := List.mem_map.1 hs
  obtain ⟨h1, h2⟩ := lvl_le (L := leaves seed n) (fun s hs => by
    unfold leaves at hs
    obtain ⟨i, _, rfl⟩ := List.mem_map.1 hs
    unfold leaf
    rw [DG.Of_size]; omega) j
  unfold DG.nbr
  rw [List.getD_eq_getElem?_getD]
  cases hc : (DG.lvl (leaves seed n) j).1[DG.beside (i / 2 ^ j)]? with
  | none => simp only [Option.getD_none]; omega
  | some s =>
    have := h1 s (List.mem_of_getElem? hc)
    simp only [Option.getD_some]; omega
end Go.Proofs.Ytinkhgmdeldniaa.SG
namespace Go.Proofs.Ytinkhgmdeldniaa
set_option maxRecDepth 100000
set_option linter.unusedVariables false
open Go.RowKit
set_option maxHeartbeats 4000000 in
theorem rlns_any (seed : ByteArray) (n i : Int) (msg : ByteArray) (w : World) (hb : n < 1 ∨ 16 < n ∨ i < 0 ∨ n ≤ i) : Calls Try.prog 16 #[.string seed, .int .i64 n, .int .i64 i, .string msg] w fun e w' => e = .returned (.tuple #[.string (SG.sign seed n i msg).1, .int .i64 (SG.sign seed n i msg).2]) ∧ Below w.heap.size w w' := by
  rw [SG.sign_bad hb]
  by_cases h1 : n < 1
  · go_enter Try.func16, Try.ntmps16
    go_wp2
    go_ret2
    exact ⟨rfl, Below.refl _ _⟩
  · by_cases h2 : 16 < n
    · go_enter Try.func16, Try.ntmps16
      go_wp2
      go_ret2
      exact ⟨rfl, Below.refl _ _⟩
    · by_cases h3 : i < 0
      · go_enter Try.func16, Try.ntmps16
        go_wp2
        go_ret2
        exact ⟨rfl, Below.refl _ _⟩
      · have h4 : n ≤ i := by omega
        go_enter Try.func16, Try.ntmps16
        go_wp2
        go_ret2
        exact ⟨rfl, Below.refl _ _⟩
theorem rproof_k {L l : List ByteArray} {h n k : Nat} {a : Option Addr} {c : Nat} {w : World} (hn : L.length = n) (hl : DG.prf L k h = l) (hr : Src w (.slice a n c) (L.map Value.string)) (hL : L.length ≤ 1000000) (hs : ∀ s ∈ L, s.size < 2147483648) (hh : DG.IsH L.length h) (hk : k < n) :
    Calls Try.prog 44 #[.slice a n c, .int .i64 (k : Int)] w fun e W' => ∃ pa pc, e = .returned (.slice pa h pc) ∧ Src W' (.slice pa h pc) (l.map Value.string) ∧ h ≤ pc ∧ Below w.heap.size w W' := by
  subst hn
  have hp : DG.proof L h (k : Int) = l := by unfold DG.proof; rw [if_pos (by omega), ← hl]; rfl
  have hlen : l.length = h := by rw [← hl, DG.prf_len]
  refine (rproof_any a c L h k w hr hL hs hh).mono fun e W' ⟨v, he, hv, hb⟩ => ?_
  rw [hp, hlen] at hv
  obtain ⟨pa, pc, rfl⟩ := own_shape hv
  refine ⟨pa, pc, he, own_src hv (by rw [List.length_map, hlen]), ?_, hb⟩
  rcases hv.2 with ⟨e1, e2⟩ | ⟨g, cap, cur, e1, _, _, e2, _⟩
  · omega
  · injection e1 with _ _ e3
    omega

set_option maxHeartbeats 4000000 in
theorem rsign_any (seed : ByteArray) (n i : Int) (msg : ByteArray) (w : World) (hs : seed.size ≤ 1000000) (hm : msg.size ≤ 1000000) : Calls Try.prog 16 #[.string seed, .int .i64 n, .int .i64 i, .string msg] w fun e w' => e = .returned (.tuple #[.string (SG.sign seed n i msg).1, .int .i64 (SG.sign seed n i msg).2]) ∧ Below w.heap.size w w' := by
  by_cases hbad : n < 1 ∨ 16 < n ∨ i < 0 ∨ n ≤ i
  · exact rlns_any seed n i msg w hbad
  obtain ⟨m, rfl⟩ : ∃ m : Nat, n = (m : Int) := ⟨n.toNat, by omega⟩
  obtain ⟨j, rfl⟩ : ∃ j : Nat, i = (j : Int) := ⟨i.toNat, by omega⟩
  have hm16 : m ≤ 16 := by omega
  have hm1 : 1 ≤ m := by omega
  have hjm : j < m := by omega
  rw [SG.sign_good ⟨hm1, hm16⟩ hjm]
  obtain ⟨i0, hif, hz0, hz1, hz2⟩ := info_parts info_string
  have HD := Lib.hid (fun V => rdigits_any msg V hm)
  have HLK : Hid (∀ (c : Nat) (V : World), c < 18 → Calls Try.prog 25 #[.string seed, .int .i64 (j : Int), .int .i64 (c : Int), .int .i64 (SG.dig msg c : Int)] V fun e w' => e = .returned (.string (SG.link seed (j : Int) (c : Int) (SG.dig msg c))) ∧ Below V.heap.size V w') := Lib.hid fun c V hc => rlink_any seed (j : Int) (c : Int) (SG.dig msg c) V hs (by omega) (by omega) (by have := (SG.dig_at (msg := msg) hc).2; omega)
  have HLV := Lib.hid (fun V => rleaves_any seed m V hs (by omega))
  have HH := Lib.hid (SG.hOf_is (n := m) (by omega))
  have hjn : (j : Int) < (m : Int) := by omega
  clear hs hm hbad
  go_enter Try.func16, Try.ntmps16
  go_wp2_with fail
  refine (HD.out _).mono ?_
  rintro e w1 ⟨v, rfl, hv, k1⟩
  obtain ⟨da, dc, rfl⟩ := own_shape hv
  have hrd := row_own hv (by rw [List.length_map, SG.digits_len])
  obtain ⟨g, o, rfl, hg, hc0⟩ := hrd.cell (k := 0) (by rw [List.length_map, SG.digits_len]; omega)
  clear hc0
  have HCE : Hid (∀ V, Below w1.heap.size w1 V → ∀ c, c < 18 → V.cell? ⟨g, o + c, none⟩ = some (.int .i64 (SG.dig msg c : Int))) := Lib.hid fun V hV c hc => by
    have hk' : c < ((SG.digits msg).map (Value.int .i64)).length := by rw [List.length_map, SG.digits_len]; exact hc
    obtain ⟨g1, o1, e1, _, d1⟩ := (hrd.keep hV).cell hk'
    injection e1 with e1
    injection e1 with e1 e2
    subst e1 e2
    rw [d1]
    obtain ⟨_, hx⟩ := List.getElem?_eq_some_iff.1 (SG.dig_at (msg := msg) hc).1
    rw [List.getElem_map, hx]
  have HK1 := Lib.hid k1
  clear hv hrd hg k1
  go_wp2
  go_loopw [10, 12] (fun v10 v12 wr => ∃ c : Nat, wr.ownsRow w1.heap.size 9 1 v10 c ((SG.lns seed (j : Int) msg c).map Value.string) ∧ v12 = .int .i64 (c : Int) ∧ c ≤ 18 ∧ Below w1.heap.size w1 wr) (fun _ v _ => 18 - (intOf v).toNat)
  case atStart => exact ⟨0, World.ownsRow_nil _ _ _ _, rfl, Nat.zero_le _, Below.refl _ _⟩
  case round =>
    obtain ⟨c, hrow, rfl, hc, hb⟩ := hrel
    obtain ⟨va, vc, rfl⟩ := own_shape hrow
    have HROW := Lib.hid hrow
    have HB := Lib.hid hb
    have hbs := hb.size
    by_cases hc18 : c < 18
    · have hki : (c : Int) < 18 := by omega
      have hk0 : (0 : Int) ≤ (c : Int) := by omega
      have hcc := HCE.out _ hb c hc18
      have HLC := Lib.hid (HLK.out c wr hc18)
      obtain ⟨z, hz⟩ : ∃ z, SG.link seed (j : Int) (c : Int) (SG.dig msg c) = z := ⟨_, rfl⟩
      have HZ : Hid (SG.lns seed (j : Int) msg (c + 1) = SG.lns seed (j : Int) msg c ++ [z]) := Lib.hid (by rw [SG.lns_succ, hz])
      rw [hz] at HLC
      obtain ⟨y, hy⟩ : ∃ y, SG.dig msg c = y := ⟨_, rfl⟩
      rw [hy] at HLC hcc
      clear hz hy hrow hb
      go_wp2_with fail
      refine HLC.out.mono ?_
      rintro e w2 ⟨rfl, k2⟩
      have HR1 := Lib.hid (own_kept HROW.out k2)
      have HB1 := Lib.hid (bnext HB.out k2)
      have hs1 := HB1.out.size
      clear k2
      go_wp2_with (at_builtin; refine wpList_app _ rfl _ _ 42 rfl w1.heap.size 9 i0 (.string ⟨#[]⟩) 16 Try.underlying42 hif hz0 hz1 hz2 rfl _ _ _ rfl (HR1.out.alloc _) _ [.string z] rfl (Src.one (World.cell?_alloc_at _ _ _ _ rfl)) (by simp [Value.oneCell']) ?d1 ?d2 ?d3 ?_)
      case d1 => (try unfold maxLen); (try simp only [List.length_cons, List.length_nil]); omega
      case d2 => (try simp only [List.length_cons, List.length_nil]); omega
      case d3 => simp; omega
      intro v7 w7 hown7 hgrow7 _
      have HB7 : Hid (Below w1.heap.size w1 w7) := Lib.hid ((HB1.out.alloc hs1 _).grown hgrow7 (by simp; omega) (fun k e => (HR1.out.lt k e).1))
      have HO7 := Lib.hid hown7
      obtain ⟨g7, c7, rfl⟩ := ownsRow_succ hown7
      clear hown7 hgrow7
      go_wp2
      go_roundw
      case rel => exact ⟨c + 1, by rw [HZ.out, List.map_append]; exact HO7.out, by go_num, hc18, HB7.out⟩
      case measure => simp [intOf]; omega
    · have hki : ¬ (c : Int) < 18 := by omega
      obtain rfl : c = 18 := by omega
      have hrl := row_own hrow (by rw [List.length_map, SG.lns_len])
      have HRL := Lib.hid hrl
      clear hrow hb hrl HROW
      go_wp2_with fail
      refine (HLV.out _).mono ?_
      rintro e w3 ⟨v3, rfl, hv3, k3⟩
      obtain ⟨la, lc, rfl⟩ := own_shape hv3
      obtain ⟨p, hp⟩ : ∃ p, DG.prf (SG.leaves seed m) j (SG.hOf m) = p := ⟨_, rfl⟩
      have hps : ∀ s ∈ p, s.size ≤ 100000 := by rw [← hp]; exact SG.nbr_small _ _
      have hpl : p.length = SG.hOf m := by rw [← hp, DG.prf_len]
      have HPK := Lib.hid (rproof_k (w := w3) (k := j) (SG.leaves_len seed m) hp (own_src hv3 (by rw [List.length_map, SG.leaves_len])) (by rw [SG.leaves_len]; omega) (SG.leaves_small seed m) (by rw [SG.leaves_len]; exact HH.out) hjm)
      have HPS := Lib.hid hps
      have HPL := Lib.hid hpl
      have hh4 : SG.hOf m ≤ 4 := by unfold SG.hOf; (repeat' split) <;> omega
      have HH4 := Lib.hid hh4
      have HPP := Lib.hid hp
      clear hp hps hpl hv3 hh4
      go_wp2_with fail
      refine HPK.out.mono ?_
      rintro e w4 ⟨pa, pc, rfl, hsp, hpc, k4⟩
      have HPT := Lib.hid (rparts_any (j : Int) (.slice va 18 vc) (.slice pa (SG.hOf m) pc) (SG.lns seed (j : Int) msg 18) p w4 (by omega) (HRL.out.keep (bnext k3 k4)) hsp.row (fun s h => by have := SG.lns_small _ _ _ _ s h; omega) (by rw [SG.lns_len]; omega) HPS.out (by rw [HPL.out]; have := HH4.out; omega))
      clear hsp
      go_wp2_with fail
      refine HPT.out.mono ?_
      rintro e w5 ⟨rfl, k5⟩
      go_wp2
      go_ret2
      exact ⟨by rw [HPP.out]; rfl, bnext (bnext (bnext (bnext HK1.out HB.out) k3) k4) k5⟩
end Go.Proofs.Ytinkhgmdeldniaa
end
/- Whether strings are links, of the program. No conditions. -/
section
namespace Go.Proofs.Ytinkhgmdeldniaa.SG
set_option maxRecDepth 100000
open Go.RowKit
def are (l : List ByteArray) : Bool := l.all (fun s => s.size == 8) && l.length == 18
theorem are_bad {l : List ByteArray} {k : Nat} (hk : k < l.length) (h : ¬ l[k].size = 8) : are l = false := by
  unfold are
  have : l.all (fun s => s.size == 8) = false := by
    rw [List.all_eq_false]
    exact ⟨l[k], List.getElem_mem hk, by simpa using h⟩
  rw [this]
  rfl
theorem are_all {l : List ByteArray} (h : ∀ k, ∀ hk : k < l.length, l[k].size = 8) : are l = (l.length == 18) := by
  unfold are
  have : l.all (fun s => s.size == 8) = true := by
    rw [List.all_eq_true]
    intro s hs
    obtain ⟨k, hk, rfl⟩ := List.getElem_of_mem hs
    simpa using h k hk
  rw [this]
  rfl
end Go.Proofs.Ytinkhgmdeldniaa.SG
namespace Go.Proofs.Ytinkhgmdeldniaa
set_option maxRecDepth 100000
set_option linter.unusedVariables false
open Go.RowKit
set_option maxHeartbeats 4000000 in
theorem are_any (l : List ByteArray) (n : Nat) (a : Option Addr) (c : Nat) (w : World) (hn : l.length = n) (hr : RowAt w (.slice a n c) (l.map Value.string)) (hl : n ≤ 1000000000000) :
    Calls Try.prog 45 #[.slice a n c] w fun e w' => e = .returned (.bool (SG.are l)) ∧ Below w.heap.size w w' := by
  have HR := Lib.hid hr
  have HN := Lib.hid hn
  clear hr hn
  go_enter Try.func45, Try.ntmps45
  go_wp2
  go_loopw [7] (fun v7 wr => ∃ k : Nat, v7 = .int .i64 (k : Int) ∧ k ≤ n ∧ (∀ i, i < k → ∀ hi : i < l.length, l[i].size = 8) ∧ Below w.heap.size w wr) (fun v _ => n - (intOf v).toNat)
  case atStart => exact ⟨0, rfl, Nat.zero_le _, fun i hi => by omega, Below.refl _ _⟩
  case round =>
    obtain ⟨k, rfl, hk, hall, hb⟩ := hrel
    have HA := Lib.hid hall
    clear hall
    by_cases hkn : k < n
    · have hki : (k : Int) < (n : Int) := by omega
      have hk0 : (0 : Int) ≤ (k : Int) := by omega
      have hkl : k < l.length := by rw [HN.out]; exact hkn
      obtain ⟨g, o, rfl, hg, hc⟩ := (HR.out.keep hb).cell (k := k) (by rw [List.length_map]; exact hkl)
      rw [List.getElem_map] at hc
      obtain ⟨x, hx⟩ : ∃ x, l[k] = x := ⟨_, rfl⟩
      rw [hx] at hc
      have HX := Lib.hid hx
      by_cases h8 : x.size = 8
      · have hi8 : (x.size : Int) = 8 := by omega
        have HH8 := Lib.hid h8
        have HKL := Lib.hid hkl
        clear hx h8
        go_wp2
        go_roundw
        case rel => exact ⟨k + 1, by go_num, hkn, fun i hi hil => by
          by_cases hik : i = k
          · subst hik; rw [HX.out]; exact HH8.out
          · exact HA.out i (by omega) hil, hb⟩
        case measure => simp [intOf]; omega
      · have hi8 : ¬ (x.size : Int) = 8 := by omega
        have HF := Lib.hid (SG.are_bad hkl (by rw [hx]; exact h8))
        clear hx
        go_wp2
        go_ret
        exact ⟨by rw [HF.out]; rfl, hb⟩
    · have hki : ¬ (k : Int) < (n : Int) := by omega
      obtain rfl : n = k := by omega
      have HF := Lib.hid (SG.are_all (l := l) (fun i hi => HA.out i (by rw [← HN.out]; exact hi) hi))
      by_cases h18 : n = 18
      · have hi18 : (n : Int) = 18 := by omega
        have hz : SG.are l = true := by rw [HF.out, HN.out, h18]; rfl
        have HZ := Lib.hid hz
        clear hz
        go_wp2
        go_ret
        exact ⟨by rw [HZ.out]; rfl, hb⟩
      · have hi18 : ¬ (n : Int) = 18 := by omega
        have he : ((n : Int) == 18) = false := by simpa using hi18
        have hz : SG.are l = false := by rw [HF.out, HN.out]; simpa using h18
        have HZ := Lib.hid hz
        clear hz
        go_wp2
        go_ret
        exact ⟨by rw [HZ.out]; rfl, hb⟩
end Go.Proofs.Ytinkhgmdeldniaa
end
/- The leaf that links lead to, of the program. No conditions. -/
section
namespace Go.Proofs.Ytinkhgmdeldniaa.SG
set_option maxRecDepth 100000
open Go.RowKit
/-- Strings, one behind the other. -/
def cat (l : List ByteArray) : ByteArray := DG.S (l.flatMap (·.data.toList))
theorem join_cat (l : List (List UInt8)) : Lib.join l [] = l.flatten := by
  match l with
  | [] => rfl
  | [x] => simp [Lib.join]
  | x :: y :: r =>
    have := join_cat (y :: r)
    have h2 : Lib.join (x :: y :: r) [] = x ++ Lib.join (y :: r) [] := by simp [Lib.join]
    rw [h2, this]
    simp
end Go.Proofs.Ytinkhgmdeldniaa.SG
namespace Go.Proofs.Ytinkhgmdeldniaa
set_option maxRecDepth 100000
set_option linter.unusedVariables false
open Go.RowKit
set_option maxHeartbeats 4000000 in
/-- leaf of at least one string. -/
theorem leaf_any (l : List ByteArray) (n : Nat) (a : Option Addr) (c : Nat) (w : World) (hn : l.length = n) (h0 : 0 < n) (hn1 : n ≤ 1000) (hc : n ≤ c) (hr : RowAt w (.slice a n c) (l.map Value.string)) (hs : ∀ s ∈ l, s.size ≤ 100000) :
    Calls Try.prog 49 #[.slice a n c] w fun e w' => e = .returned (.string (DG.Of (SG.cat l))) ∧ Below w.heap.size w w' := by
  obtain ⟨g, o, rfl, hg, hx⟩ := hr.cell (k := 0) (by rw [List.length_map, hn]; exact h0)
  have hcells : ∀ (j : Nat) x, l[j]? = some x → w.cell? ⟨g, o + j, none⟩ = some (.string x) := by
    intro j x hj
    obtain ⟨hjl, hjx⟩ := List.getElem?_eq_some_iff.1 hj
    obtain ⟨g1, o1, e1, _, d1⟩ := hr.cell (k := j) (by rw [List.length_map]; exact hjl)
    injection e1 with e1
    injection e1 with e1 e2
    subst e1 e2
    rw [d1, List.getElem_map, hjx]
  have hsum : (l.flatMap (·.data.toList)).length ≤ 100000 * l.length := W.WP.flat_len (fun s : ByteArray => s.data.toList) 100000 l (fun s h => by
    have h2 := hs s h
    have h3 : s.data.toList.length = s.size := Array.length_toList
    show s.data.toList.length ≤ 100000
    omega)
  have hjc : Lib.join (l.map (·.data.toList)) (⟨#[]⟩ : ByteArray).data.toList = l.flatMap (·.data.toList) := by
    rw [show ((⟨#[]⟩ : ByteArray).data.toList : List UInt8) = [] from rfl, SG.join_cat, List.flatMap_def]
  have hj := Try.strings_Join g o c l ⟨#[]⟩ w hcells hg (by omega) (by omega) (by rw [hjc]; omega)
  rw [hjc, hn] at hj
  obtain ⟨z, hz⟩ : ∃ z, SG.cat l = z := ⟨_, rfl⟩
  have hz2 : (⟨(l.flatMap (·.data.toList)).toArray⟩ : ByteArray) = z := hz
  rw [hz2] at hj
  have hzs : z.size ≤ maxLen := by
    rw [← hz]
    unfold SG.cat
    rw [DG.S_size]
    unfold maxLen
    omega
  have HJ := Lib.hid hj
  have HO := Lib.hid (fun V => Of_any z V hzs)
  rw [hz]
  clear hx hcells hsum hjc hj hz hz2 hr hs hn
  go_enter Try.func49, Try.ntmps49
  go_wp2_with fail
  refine HJ.out.mono ?_
  rintro e w1 ⟨rfl, k1⟩
  go_wp2_with fail
  refine (HO.out _).mono ?_
  rintro e w2 ⟨rfl, k2⟩
  go_wp2
  go_ret
  exact ⟨rfl, bnext k1 k2⟩
end Go.Proofs.Ytinkhgmdeldniaa
end
/- A region that draws its order, whose operations read and whose calls hand back values that no order turns, walked once in the order of the text, over all worlds that come later than one. No conditions. -/
section
namespace Go.Proofs.Ytinkhgmdeldniaa
open Go.RowKit

/-- A world that comes later than w: what w holds stands in it unchanged. -/
structure Later (w : World) where
  val : World
  le : Below w.heap.size w val

instance laterNonempty (w : World) : Nonempty (Later w) := ⟨⟨w, Below.refl _ _⟩⟩

theorem Later.cell {w : World} {p : Addr} {v : Value} (h : w.cell? p = some v) (s : Later w) : s.val.cell? p = some v :=
  (s.le.cell (World.block_lt_of_cell? w p h)).trans h

theorem calls_later {P : Program} {f : FuncId} {args : Array Value} {v : Value} {w : World} (s : Later w)
    (h : Calls P f args s.val fun e w' => e = .returned v ∧ Below s.val.heap.size s.val w') : Calls P f args s.val fun e w'' => e = .returned v ∧ ∃ s' : Later w, w'' = s'.val :=
  h.mono fun _ w'' ⟨he, hb⟩ => ⟨he, ⟨w'', s.le.trans (hb.mono s.le.size)⟩, rfl⟩
theorem calls_later_same {P : Program} {f : FuncId} {args : Array Value} {v : Value} {w : World} (s : Later w)
    (h : Calls P f args s.val fun e w' => e = .returned v ∧ s.val = w') : Calls P f args s.val fun e w'' => e = .returned v ∧ ∃ s' : Later w, w'' = s'.val :=
  h.mono fun _ _ ⟨he, hb⟩ => ⟨he, s, hb.symm⟩

theorem wp_region_later {P : Program} {id : Nat} {Q : Exit → Act → World → Prop} {a : Act} {w : World} {l : List Oper} (hm : P.follows .mixedOrders = true) (hB : Region.lexB .any l.toArray = true)
    (h : wpQuiet P l.toArray (fun w' => ∃ s : Later w, w' = s.val) (fun a' => ∀ w', (∃ s : Later w, w' = s.val) → Q .normal a' w') l a) : (Code.region id l.toArray true).wp P Q a w :=
  wp_region_quiet (C := fun w' => ∃ s : Later w, w' = s.val) hm hB ⟨⟨_, (Below.refl _ _).drew⟩, rfl⟩ (by simpa using h)
end Go.Proofs.Ytinkhgmdeldniaa
end
