/- The law's helpers: comparing, texts that are written in letters, the first bytes. No conditions. -/
import Derived.Test.YtbgmbcngkmlfeaaDoorOrd18
import Derived.Test.YtbgmbcngkmlfeaaDoorOrd17
import Derived.Test.YtbgmbcngkmlfeaaDoorOrd14
import Derived.Test.YtbgmbcngkmlfeaaDoorMod
namespace Go.Proofs.YtbgmbcngkmlfeaaDoor
set_option maxRecDepth 100000
set_option linter.unusedVariables false
open Go.RowKit Go.Shelf Go.Deep
theorem one_cell {X : World} {B : Nat} {a : Value} {t : TypeId} (h : X.heap[B]? = some (.cells #[a] t (0, 0))) : X.cell? ⟨B, 0, none⟩ = some a := by
  simp [World.cell?, h]
theorem conv_one (W : World) (b : Int) : Sem.run Tryd.prog (convert 33 9 (.slice (some ⟨W.heap.size, 0, none⟩) 1 1)) (W.alloc (.cells #[.int .u8 b] 5)) = .ok (.string (ByteArray.empty.push (UInt8.ofNat b.toNat))) (W.alloc (.cells #[.int .u8 b] 5)) := by
  have h := run_convert_bytes_string (P := Tryd.prog) (W.alloc (.cells #[.int .u8 b] 5)) 33 9 5 (some ⟨W.heap.size, 0, none⟩) 1 1 Tryd.underlying33 Tryd.underlying5 Tryd.underlying9
  rw [h]
  have hl := run_loadCells_list (P := Tryd.prog) (W.alloc (.cells #[.int .u8 b] 5)) ⟨W.heap.size, 0, none⟩ [.int .u8 b] (fun j v hj => by
    match j, hj with
    | 0, hj => simp at hj; subst hj; rw [addr_add]; exact one_cell (World.alloc_heap_new W (.cells #[.int .u8 b] 5))
    | j + 1, hj => simp at hj)
  exact run_bytesToString _ _ 1 1 [b] hl
attribute [local go_sem] conv_one
set_option maxRecDepth 100000 in
set_option maxHeartbeats 1000000 in
theorem oequal_any (u v : Value) (L : List Int) (w : World) (hu : RowAt w u (L.map (Value.int .i64))) (hv : RowAt w v (L.map (Value.int .i64))) (hL : L.length ≤ 9223372036854775807) :
    Calls Tryd.prog 13 #[u, v] w fun e w' => e = .returned (.bool true) ∧ Below w.heap.size w w' := by
  obtain ⟨a1, c1, rfl, h1⟩ := hu.out
  obtain ⟨a2, c2, rfl, h2⟩ := hv.out
  have hml : (L.map (Value.int .i64)).length = L.length := by simp
  rw [hml] at hu hv ⊢
  have HU := Lib.hid hu
  have HV := Lib.hid hv
  clear h1 h2 hu hv
  go_enter Tryd.func13, Tryd.ntmps13
  go_wp2
  go_loopw [5] (fun i wr => ∃ k : Nat, k ≤ L.length ∧ i = .int .i64 k ∧ Below w.heap.size w wr) (fun i _ => L.length - (intOf i).toNat)
  case atStart => exact ⟨0, Nat.zero_le _, rfl, Below.refl _ _⟩
  case round =>
    obtain ⟨k, hk, rfl, hb⟩ := hrel
    by_cases hkl : k < L.length
    · obtain ⟨g1, o1, rfl, hg1, hc1⟩ := (HU.out.keep hb).cell (k := k) (by simpa using hkl)
      obtain ⟨g2, o2, rfl, hg2, hc2⟩ := (HV.out.keep hb).cell (k := k) (by simpa using hkl)
      simp only [List.getElem_map] at hc1 hc2
      have hki : (k : Int) < (L.length : Int) := by omega
      go_wp2
      go_quiet (fail)
      go_wp2
      go_roundw
      case rel => exact ⟨k + 1, by omega, by go_num, below_drewN hb _⟩
      case measure => simp [intOf]; omega
    · go_wp2
      go_ret
      exact ⟨rfl, hb⟩

/-- A row of runs. -/
def RnAt (w : World) (v : Value) (R : List OP.Rn) : Prop := ∃ a c, v = .slice a R.length c ∧ (R = [] ∨ ∃ g, a = some ⟨g, 0, none⟩ ∧ g < w.heap.size ∧ ∀ i x, R[i]? = some x → w.cell? ⟨g, i * 3, none⟩ = some (.int .i64 (x.1 : Int)) ∧ w.cell? ⟨g, i * 3 + 1, none⟩ = some (.int .i64 (x.2.1 : Int)) ∧ w.cell? ⟨g, i * 3 + 2, none⟩ = some (.int .i64 x.2.2))
theorem RnAt.keep {w w' : World} {v : Value} {R : List OP.Rn} (h : RnAt w v R) (hb : Below w.heap.size w w') : RnAt w' v R := by
  obtain ⟨a, c, rfl, h | ⟨g, rfl, hg, hc⟩⟩ := h
  · exact ⟨a, c, rfl, .inl h⟩
  · exact ⟨_, c, rfl, .inr ⟨g, rfl, Nat.lt_of_lt_of_le hg hb.size, fun i x hx => ⟨(hb.cell (p := ⟨g, _, none⟩) hg).trans (hc i x hx).1, (hb.cell (p := ⟨g, _, none⟩) hg).trans (hc i x hx).2.1, (hb.cell (p := ⟨g, _, none⟩) hg).trans (hc i x hx).2.2⟩⟩⟩
theorem rnc_at : ∀ (R : List OP.Rn) (i : Nat) (x : OP.Rn), R[i]? = some x → (OP.rnc R)[i * 3]? = some (.int .i64 (x.1 : Int)) ∧ (OP.rnc R)[i * 3 + 1]? = some (.int .i64 (x.2.1 : Int)) ∧ (OP.rnc R)[i * 3 + 2]? = some (.int .i64 x.2.2)
  | [], i, x, h => by simp at h
  | r :: R, 0, x, h => by
    obtain rfl : r = x := by simpa using h
    simp [OP.rnc, OP.rnv]
  | r :: R, i + 1, x, h => by
    rw [List.getElem?_cons_succ] at h
    have e : OP.rnc (r :: R) = OP.rnv r ++ OP.rnc R := by simp [OP.rnc]
    have hl : (OP.rnv r).length = 3 := rfl
    obtain ⟨h1, h2, h3⟩ := rnc_at R i x h
    rw [e]
    refine ⟨?_, ?_, ?_⟩
    · rw [List.getElem?_append_right (by omega), hl, show (i + 1) * 3 - 3 = i * 3 by omega]; exact h1
    · rw [List.getElem?_append_right (by omega), hl, show (i + 1) * 3 + 1 - 3 = i * 3 + 1 by omega]; exact h2
    · rw [List.getElem?_append_right (by omega), hl, show (i + 1) * 3 + 2 - 3 = i * 3 + 2 by omega]; exact h3
theorem own_rn {w : World} {B e : Nat} {v : Value} {R : List OP.Rn} (h : w.ownsRow B e 3 v R.length (OP.rnc R)) : RnAt w v R := by
  rcases h.2 with ⟨hv, hn⟩ | ⟨g, cap, cur, hv, hb, hg, _⟩
  · exact ⟨none, 0, by rw [hv, hn], .inl (List.eq_nil_of_length_eq_zero hn)⟩
  · subst hv
    refine ⟨_, cap, rfl, .inr ⟨g, rfl, (Array.getElem?_eq_some_iff.1 hg).1, fun i x hx => ?_⟩⟩
    obtain ⟨a1, a2, a3⟩ := rnc_at R i x hx
    have q := h.cells (g := g) rfl
    refine ⟨?_, ?_, ?_⟩
    · have := q _ _ a1; rwa [addr_add] at this
    · have := q _ _ a2; rwa [addr_add] at this
    · have := q _ _ a3; rwa [addr_add] at this
set_option maxHeartbeats 1000000 in
theorem osame_any (u v : Value) (R : List OP.Rn) (w : World) (hu : RnAt w u R) (hv : RnAt w v R) (hR : R.length ≤ 9223372036854775807) :
    Calls Tryd.prog 16 #[u, v] w fun e w' => e = .returned (.bool true) ∧ Below w.heap.size w w' := by
  have HU := Lib.hid hu
  have HV := Lib.hid hv
  obtain ⟨a1, c1, rfl, -⟩ := hu
  obtain ⟨a2, c2, rfl, -⟩ := hv
  obtain ⟨n, hn⟩ : ∃ n, R.length = n := ⟨_, rfl⟩
  have HN := Lib.hid hn
  rw [hn] at HU HV hR ⊢
  clear hn
  go_enter Tryd.func16, Tryd.ntmps16
  go_wp2
  go_loopw [5] (fun i wr => ∃ k : Nat, k ≤ n ∧ i = .int .i64 (k : Int) ∧ Below w.heap.size w wr) (fun i _ => n - (intOf i).toNat)
  case atStart => exact ⟨0, Nat.zero_le _, rfl, Below.refl _ _⟩
  case round =>
    obtain ⟨k, hk, rfl, hb⟩ := hrel
    by_cases hkl : k < n
    · have hki : (k : Int) < (n : Int) := by omega
      have hk0 : (0 : Int) ≤ (k : Int) := by omega
      obtain ⟨x, hx⟩ : ∃ x, R[k]? = some x := ⟨R[k]'(by rw [HN.out]; exact hkl), List.getElem?_eq_getElem _⟩
      obtain ⟨a', c', e1, h1⟩ := HU.out.keep hb
      obtain ⟨a'', c'', e2, h2⟩ := HV.out.keep hb
      rw [HN.out] at e1 e2
      injection e1 with e1 _ e3
      injection e2 with e2 _ e4
      subst e1 e2 e3 e4
      rcases h1 with h1 | ⟨g1, rfl, hg1, hc1⟩
      · rw [h1] at hx; simp at hx
      · rcases h2 with h2 | ⟨g2, rfl, hg2, hc2⟩
        · rw [h2] at hx; simp at hx
        · obtain ⟨p1, p2, p3⟩ := hc1 k x hx
          obtain ⟨q1, q2, q3⟩ := hc2 k x hx
          clear hc1 hc2 hx
          go_wp2
          go_quiet (fail)
          go_wp2
          go_roundw
          case rel => exact ⟨k + 1, by omega, by go_num, below_drewN hb _⟩
          case measure => simp [intOf]; omega
    · go_wp2
      go_ret
      exact ⟨rfl, hb⟩
namespace OP
/-- What a letter of the examples stands for. -/
def let1 (c : UInt8) : UInt8 := if c = 97 ∨ c = 98 then c - 33 else if c = 82 ∨ c = 83 then c + 22 else c
def wrt (s : ByteArray) : Nat → ByteArray
  | 0 => ⟨#[]⟩
  | k + 1 => wrt s k ++ ByteArray.empty.push (let1 s[k]!)
theorem wrt_size (s : ByteArray) : ∀ k, (wrt s k).size = k
  | 0 => rfl
  | k + 1 => by rw [wrt, ByteArray.size_append, wrt_size s k]; rfl
end OP
theorem bytes256 : ∀ n : Fin 256, (n.val ≠ 97 → n.val ≠ 98 → n.val ≠ 82 → n.val ≠ 83 → OP.let1 (UInt8.ofNat n.val) = UInt8.ofNat n.val) ∧ (n.val = 97 → OP.let1 (UInt8.ofNat n.val) = 64) ∧ (n.val = 98 → OP.let1 (UInt8.ofNat n.val) = 65) ∧ (n.val = 82 → OP.let1 (UInt8.ofNat n.val) = 104) ∧ (n.val = 83 → OP.let1 (UInt8.ofNat n.val) = 105) := by decide +kernel
set_option maxHeartbeats 4000000 in
theorem owritten_any (s : ByteArray) (w : World) (hs : s.size ≤ 1000000) :
    Calls Tryd.prog 27 #[.string s] w fun e w' => e = .returned (.string (OP.wrt s s.size)) ∧ Below w.heap.size w w' := by
  go_enter Tryd.func27, Tryd.ntmps27
  go_wp2
  go_loopw [3, 4] (fun v3 v4 wr => ∃ k : Nat, v4 = .int .i64 (k : Int) ∧ k ≤ s.size ∧ v3 = .string (OP.wrt s k) ∧ Below w.heap.size w wr) (fun _ v _ => s.size - (intOf v).toNat)
  case atStart => exact ⟨0, rfl, Nat.zero_le _, rfl, Below.refl _ _⟩
  case round =>
    obtain ⟨k, rfl, hk, rfl, hb⟩ := hrel
    by_cases h1 : k < s.size
    · have h1i : (k : Int) < (s.size : Int) := by omega
      have hk0 : (0 : Int) ≤ (k : Int) := by omega
      have hby : (s[k].toNat : Int) ≤ 255 := by have := s[k].toNat_lt; omega
      have hn := Lib.hid (OP.wrt_size s k)
      have hb256 := bytes256 ⟨s[k].toNat, s[k].toNat_lt⟩
      simp only [UInt8.ofNat_toNat] at hb256
      have hnx : OP.wrt s (k + 1) = OP.wrt s k ++ ByteArray.empty.push (OP.let1 s[k]) := by
        rw [OP.wrt]
        congr 3
        exact getElem!_pos s k h1
      have HNX := Lib.hid hnx
      generalize OP.wrt s k = X at HNX hn
      obtain ⟨b1, b2, b3, b4, b5⟩ := hb256
      have hXs : X.size = k := hn.out
      have hps : ∀ b : UInt8, (ByteArray.empty.push b).size = 1 := fun _ => rfl
      clear hnx
      have hcs : s[k].toNat = 97 ∨ s[k].toNat = 98 ∨ s[k].toNat = 82 ∨ s[k].toNat = 83 ∨ (s[k].toNat ≠ 97 ∧ s[k].toNat ≠ 98 ∧ s[k].toNat ≠ 82 ∧ s[k].toNat ≠ 83) := by omega
      rcases hcs with hc | hc | hc | hc | ⟨hc1, hc2, hc3, hc4⟩
      · have hL : Hid (OP.let1 s[k] = 64) := Lib.hid (b2 hc)
        have hci : (s[k].toNat : Int) = 97 := by omega
        clear hc b1 b2 b3 b4 b5
        go_wp2
        go_roundw
        case rel => exact ⟨k + 1, by go_num, h1, by rw [HNX.out, hL.out], by repeat' (first | exact hb | (refine balloc ?_ _))⟩
        case measure => simp [intOf]; omega
      · have hL : Hid (OP.let1 s[k] = 65) := Lib.hid (b3 hc)
        have hci : (s[k].toNat : Int) = 98 := by omega
        clear hc b1 b2 b3 b4 b5
        go_wp2
        go_roundw
        case rel => exact ⟨k + 1, by go_num, h1, by rw [HNX.out, hL.out], by repeat' (first | exact hb | (refine balloc ?_ _))⟩
        case measure => simp [intOf]; omega
      · have hL : Hid (OP.let1 s[k] = 104) := Lib.hid (b4 hc)
        have hci : (s[k].toNat : Int) = 82 := by omega
        clear hc b1 b2 b3 b4 b5
        go_wp2
        go_roundw
        case rel => exact ⟨k + 1, by go_num, h1, by rw [HNX.out, hL.out], by repeat' (first | exact hb | (refine balloc ?_ _))⟩
        case measure => simp [intOf]; omega
      · have hL : Hid (OP.let1 s[k] = 105) := Lib.hid (b5 hc)
        have hci : (s[k].toNat : Int) = 83 := by omega
        clear hc b1 b2 b3 b4 b5
        go_wp2
        go_roundw
        case rel => exact ⟨k + 1, by go_num, h1, by rw [HNX.out, hL.out], by repeat' (first | exact hb | (refine balloc ?_ _))⟩
        case measure => simp [intOf]; omega
      · have hL : Hid (OP.let1 s[k] = s[k]) := Lib.hid (b1 hc1 hc2 hc3 hc4)
        have e1 : ((s[k].toNat : Int) == 97) = false := by simp; omega
        have e2 : ((s[k].toNat : Int) == 98) = false := by simp; omega
        have e3 : ((s[k].toNat : Int) == 82) = false := by simp; omega
        have e4 : ((s[k].toNat : Int) == 83) = false := by simp; omega
        have hun : UInt8.ofNat ((s[k].toNat : Nat) : Int).toNat = s[k] := by simp
        obtain ⟨c, hc⟩ : ∃ c, s[k].toNat = c := ⟨_, rfl⟩
        have HUN := Lib.hid hun
        clear b1 b2 b3 b4 b5 hc1 hc2 hc3 hc4 hun hc
        go_wp2
        go_roundw
        case rel => exact ⟨k + 1, by go_num, h1, by rw [HNX.out, hL.out, ← HUN.out], by repeat' (first | exact hb | (refine balloc ?_ _))⟩
        case measure => simp [intOf]; omega
    · obtain rfl : k = s.size := by omega
      go_wp2
      go_ret
      exact ⟨rfl, hb⟩
end Go.Proofs.YtbgmbcngkmlfeaaDoor
