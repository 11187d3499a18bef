/- The reference's bit and with; rows that are read. No conditions. -/
import Derived.Test.YtmiennkldkcnfaaDoorPn0
import Derived.Test.YtmiennkldkcnfaaDoorPn1
namespace Go.Proofs.YtmiennkldkcnfaaDoor
set_option maxRecDepth 100000
set_option linter.unusedVariables false
open Go.RowKit Go.Deep
theorem pow_cast (n : Nat) : ((2 : Int) ^ n) = ((2 ^ n : Nat) : Int) := by rw [Int.natCast_pow]; rfl
theorem shl_val (a x : Nat) : IntKind.u64.wrap ((a : Int) * 2 ^ x) = ((PN.shl a x : Nat) : Int) := by
  rw [IntKind.wrap_u64, pow_cast]
  unfold PN.shl
  omega
theorem shl_one (x : Nat) : IntKind.u64.wrap (2 ^ x) = ((PN.shl 1 x : Nat) : Int) := by
  rw [← shl_val]
  simp
theorem shr_val (a x : Nat) : (a : Int) / 2 ^ x = ((a / 2 ^ x : Nat) : Int) := by
  rw [pow_cast]
  rfl
theorem bit_any (W : World) (r i : Nat) (hr : r < 18446744073709551616) (hi : i < 64) : Calls Tryd.prog 50 #[U6 r, .int .i64 (i : Int)] W fun e w' => e = .returned (.bool (r.testBit i)) ∧ w' = W := by
  have hs := shr_val r i
  have hlt : r / 2 ^ i < 18446744073709551616 := Nat.lt_of_le_of_lt (Nat.div_le_self _ _) hr
  have hb := u64_and_nat (r / 2 ^ i) 1 hlt (by decide)
  have hm : (r / 2 ^ i) &&& 1 = r / 2 ^ i % 2 := Nat.and_one_is_mod _
  have ht : r.testBit i = decide (r / 2 ^ i % 2 = 1) := Nat.testBit_eq_decide_div_mod_eq
  rw [hm] at hb
  obtain ⟨q, hq⟩ : ∃ q, r / 2 ^ i = q := ⟨_, rfl⟩
  rw [hq] at hs hb ht
  obtain ⟨B, hB⟩ : ∃ B, r.testBit i = B := ⟨_, rfl⟩
  rw [hB] at ht ⊢
  have hT := Lib.hid ht
  have hb' : bits .and .u64 (q : Int) 1 = ((q % 2 : Nat) : Int) := hb
  obtain ⟨z, hz⟩ : ∃ z, q % 2 = z := ⟨_, rfl⟩
  rw [hz] at hb' ht hT
  clear ht hb hm hB hq hz
  go_enter Tryd.func50, Tryd.ntmps50
  go_wp2
  go_ret
  refine ⟨retb ?_, rfl⟩
  rw [hT.out]
  cases hz : decide (z = 1) <;> simp_all
  omega
theorem with_any (W : World) (r i : Nat) (on : Bool) (hr : r < 18446744073709551616) (hi : i < 64) : Calls Tryd.prog 49 #[U6 r, .int .i64 (i : Int), .bool on] W fun e w' => e = .returned (U6 (PN.wit r i on)) ∧ w' = W := by
  have hs := shl_one i
  have hl := PN.shl_lt 1 i
  have hb := u64_andNot_nat r (PN.shl 1 i) hr hl
  obtain ⟨q, hq⟩ : ∃ q, (r &&& (18446744073709551615 - PN.shl 1 i)) = q := ⟨_, rfl⟩
  have hql : q < 18446744073709551616 := by rw [← hq]; exact Nat.lt_of_le_of_lt Nat.and_le_left hr
  have ho := u64_or_nat q (PN.shl 1 i) hql hl
  have hW : PN.wit r i on = if on then q ||| PN.shl 1 i else q := by rw [← hq]; rfl
  obtain ⟨o, ho2⟩ : ∃ o, q ||| PN.shl 1 i = o := ⟨_, rfl⟩
  rw [hW]
  rw [hq] at hb
  rw [ho2] at ho ⊢
  obtain ⟨s, hss⟩ : ∃ s, PN.shl 1 i = s := ⟨_, rfl⟩
  rw [hss] at hs hb ho
  clear hW ho2 hq hss hl hql
  cases on
  all_goals
    go_enter Tryd.func49, Tryd.ntmps49
    go_wp2
    go_ret
    exact ⟨rfl, rfl⟩
/-- Rows that are read: as many values as numbers. -/
def UA (V : World) (v : Value) (L : List Nat) : Prop := SrcN 1 V v L.length (L.map U6)
theorem UA.keep {V V' : World} {v : Value} {L : List Nat} (h : UA V v L) (hb : Below V.heap.size V V') : UA V' v L := SrcN.keep h hb
theorem UA.frame {S : Nat → Prop} {V V' : World} {v : Value} {L : List Nat} (h : UA V v L) (hf : FrS S V V') (hn : ∀ q, v.ownBlock = some q → ¬ S q) : UA V' v L := by
  obtain ⟨ao, c, e, hl, h⟩ := h
  refine ⟨ao, c, e, hl, ?_⟩
  rcases h with h | ⟨g, o, e2, hg, hc⟩
  · exact .inl h
  · refine .inr ⟨g, o, e2, Nat.lt_of_lt_of_le hg hf.size, fun j u hu => ?_⟩
    have hb := hf.block g hg (hn g (by rw [e, e2]; rfl))
    have := hc j u hu
    simp only [World.cell?] at this ⊢
    rw [hb]
    exact this
theorem UA.shape {V : World} {v : Value} {L : List Nat} (h : UA V v L) : ∃ a c, v = .slice a L.length c := by
  obtain ⟨ao, c, e, _⟩ := h
  exact ⟨ao, c, e⟩
theorem UA.cell {V : World} {a : Option Addr} {n c : Nat} {L : List Nat} (h : UA V (.slice a n c) L) {k x : Nat} (hk : L[k]? = some x) : ∃ g o, a = some ⟨g, o, none⟩ ∧ g < V.heap.size ∧ V.cell? ⟨g, o + k, none⟩ = some (U6 x) := by
  obtain ⟨ao, c', e, hl, h⟩ := h
  injection e with e1 e2 e3
  subst e1
  rcases h with ⟨h0, _⟩ | ⟨g, o, e, hg, hc⟩
  · have := (List.getElem?_eq_some_iff.1 hk).1
    omega
  · exact ⟨g, o, e, hg, hc k (U6 x) (by rw [List.getElem?_map, hk]; rfl)⟩
theorem own_ua {W : World} {B : Nat} {v : Value} {n : Nat} {L : List Nat} (h : W.ownsRow B 63 1 v n (L.map U6)) : UA W v L := by
  have hl := h.1
  rw [List.length_map, Nat.mul_one] at hl
  subst hl
  exact own_srcN h
end Go.Proofs.YtmiennkldkcnfaaDoor
