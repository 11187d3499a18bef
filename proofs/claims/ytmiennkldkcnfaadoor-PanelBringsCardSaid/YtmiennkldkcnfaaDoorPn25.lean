/- A panel stays in order; a panel beside the reference's. No conditions. -/
import Derived.Test.YtmiennkldkcnfaaDoorPn22
import Derived.Test.YtmiennkldkcnfaaDoorPn24
namespace Go.Proofs.YtmiennkldkcnfaaDoor
set_option maxRecDepth 100000
set_option linter.unusedVariables false
open Go.ChangeShapes Go.WideShapes Go.ChangeAt Go.RowKit Go.Joins Go.Deep
theorem getD_lt {S : List Nat} {n : Nat} (hS : ∀ r ∈ S, r < 2 ^ n) (j : Nat) : S.getD j 0 < 2 ^ n := by
  rw [List.getD_eq_getElem?_getD]
  cases h : S[j]? with
  | none => exact Nat.two_pow_pos _
  | some y => exact hS y (List.mem_of_getElem? h)
theorem pre_ok {P : Pn} (ho : PnOk P) (X Y W : Nat) (S : List Nat) (k : Nat) (hx : X + W ≤ P.w) (hS : ∀ r ∈ S, r < 2 ^ W) : PnOk (P.pre X Y W S k) := by
  refine ⟨ho.w1, ho.w64, by rw [P.pre_len]; exact ho.h1, by rw [P.pre_len]; exact ho.h64, fun r hr => ?_, ho.upd, ?_⟩
  · obtain ⟨j, hj⟩ := List.mem_iff_getElem?.1 hr
    change (PN.wrt S k Y X W P.R)[j]? = some r at hj
    rw [PN.wrt_at] at hj
    obtain ⟨old, h1, h2⟩ := Option.map_eq_some_iff.1 hj
    have hold := ho.bits old (List.mem_of_getElem? h1)
    rw [← h2]
    show (if Y ≤ j ∧ j < Y + k then PN.ins old (S.getD (j - Y) 0) X W else old) < 2 ^ P.w
    split
    · exact PN.ins_lt hold ho.w64 (getD_lt hS _) hx
    · exact hold
  · show (if P.fa = true then P.left - k else P.left) ≤ 9223372036854775807
    have := ho.left
    split <;> omega
theorem anyW_no {n : Nat} {S : List Nat} (h : anyW n S = false) : ∀ r ∈ S, r < 2 ^ n := fun r hr => by
  unfold anyW at h
  rw [List.any_eq_false] at h
  have := h r hr
  simp at this
  exact this
theorem wr_ok {P : Pn} (ho : PnOk P) (hu : P.upd < 1000000) (c : Rc) (S : List Nat) : PnOk (P.wr c S).2 ∧ (P.wr c S).2.upd ≤ P.upd + 1 := by
  unfold Pn.wr
  by_cases hg : P.good c S
  · rw [if_pos hg]
    obtain ⟨⟨h1, h2, h3, h4, h5, h6, h7, h8⟩, hl, ha⟩ := hg
    have hS := anyW_no ha
    have hx : c.x.toNat + c.w.toNat ≤ P.w := by omega
    split
    · have h := pre_ok ho c.x.toNat c.y.toNat c.w.toNat S S.length hx hS
      exact ⟨⟨h.w1, h.w64, h.h1, h.h64, h.bits, hu, h.left⟩, Nat.le_refl _⟩
    · exact ⟨pre_ok ho c.x.toNat c.y.toNat c.w.toNat S _ hx hS, Nat.le_succ _⟩
  · rw [if_neg hg]
    exact ⟨ho, Nat.le_succ _⟩
/-- The panel of the program beside that of the reference, each in its own blocks. -/
structure TwP (V : World) (b g b2 g2 : Nat) (P : Pn) : Prop where
  p : PnAt V b g P
  r : RfAt V b2 g2 P
  ap : (b ≠ b2 ∧ b ≠ g2) ∧ g ≠ b2 ∧ g ≠ g2
  ok : PnOk P
abbrev FT (b g b2 g2 : Nat) : Nat → Prop := fun q => FP b g q ∨ FP b2 g2 q
theorem TwP.below {V V' : World} {b g b2 g2 : Nat} {P : Pn} (h : TwP V b g b2 g2 P) (hb : Below V.heap.size V V') : TwP V' b g b2 g2 P := ⟨h.p.below hb, h.r.below hb, h.ap, h.ok⟩
section
variable {V V' : World} {b g b2 g2 : Nat} {P : Pn}
theorem TwP.pl (h : TwP V b g b2 g2 P) : b < V.heap.size ∧ g < V.heap.size ∧ b2 < V.heap.size ∧ g2 < V.heap.size := ⟨(Array.getElem?_eq_some_iff.1 h.p.hd).1, (Array.getElem?_eq_some_iff.1 h.p.row).1, (Array.getElem?_eq_some_iff.1 h.r.hd).1, (Array.getElem?_eq_some_iff.1 h.r.row).1⟩
/-- Both write: the first call's contract tells of the panel, the second one's of the reference. -/
theorem two_write (h : TwP V b g b2 g2 P) (hu : P.upd < 1000000) (c : Rc) (hc : rcOk c) (S : List Nat) (v : Value) (hS : UA V v S) (hv : ∀ q, v.ownBlock = some q → (q ≠ b ∧ q ≠ g) ∧ q ≠ b2 ∧ q ≠ g2) (hl : S.length ≤ 1000000) (hb : ∀ r ∈ S, r < 18446744073709551616) :
    Calls Tryd.prog 30 #[.pointer (some ⟨b, 0, none⟩), rcV c, v] V fun e w' => e = .returned (.int .i64 (P.wr c S).1) ∧ FrS (FP b g) V w' ∧ Hid (Calls Tryd.prog 36 #[.pointer (some ⟨b2, 0, none⟩), rcV c, v] w' fun e w'' => e = .returned (.int .i64 (P.wr c S).1) ∧ TwP w'' b g b2 g2 (P.wr c S).2 ∧ FrS (FT b g b2 g2) V w'') := by
  refine (wr_any h.p h.ok hu c hc S v hS (fun q hq => (hv q hq).1) hl hb).mono fun e w' ⟨h1, h2, h3⟩ => ⟨h1, h3, Lib.hid ?_⟩
  have hr := h.r.frame h3 (fun e => by rcases e with e | e; exact h.ap.1.1 e.symm; exact h.ap.2.1 e.symm) (fun e => by rcases e with e | e; exact h.ap.1.2 e.symm; exact h.ap.2.2 e.symm)
  refine (rwr_any hr h.ok hu c hc S v (hS.frame h3 (fun q hq e => by have := (hv q hq).1; rcases e with e | e; exact this.1 e; exact this.2 e)) (fun q hq => (hv q hq).2) hl hb).mono fun e w'' ⟨k1, k2, k3⟩ => ⟨k1, ⟨h2.frame k3 (fun e => by rcases e with e | e; exact h.ap.1.1 e; exact h.ap.1.2 e) (fun e => by rcases e with e | e; exact h.ap.2.1 e; exact h.ap.2.2 e), k2, h.ap, (wr_ok h.ok hu c S).1⟩, ?_⟩
  exact (h3.mono fun q hq => .inl hq).trans (k3.mono fun q hq => .inr hq)
theorem two_fail (h : TwP V b g b2 g2 P) (n : Int) (hn : n ≤ 9223372036854775807) :
    Calls Tryd.prog 31 #[.pointer (some ⟨b, 0, none⟩), .int .i64 n] V fun e w' => e = .returned (.tuple #[]) ∧ FrS (FP b g) V w' ∧ Hid (Calls Tryd.prog 35 #[.pointer (some ⟨b2, 0, none⟩), .int .i64 n] w' fun e w'' => e = .returned (.tuple #[]) ∧ TwP w'' b g b2 g2 { P with fa := decide (0 ≤ n), left := n.toNat } ∧ FrS (FT b g b2 g2) V w'') := by
  refine (fail_any h.p h.ok n).mono fun e w' ⟨h1, h2, h3⟩ => ⟨h1, h3, Lib.hid ?_⟩
  have hr := h.r.frame h3 (fun e => by rcases e with e | e; exact h.ap.1.1 e.symm; exact h.ap.2.1 e.symm) (fun e => by rcases e with e | e; exact h.ap.1.2 e.symm; exact h.ap.2.2 e.symm)
  refine (rfail_any hr h.ok n).mono fun e w'' ⟨k1, k2, k3⟩ => ⟨k1, ⟨h2.frame k3 (fun e => by rcases e with e | e; exact h.ap.1.1 e; exact h.ap.1.2 e) (fun e => by rcases e with e | e; exact h.ap.2.1 e; exact h.ap.2.2 e), k2, h.ap, ⟨h.ok.w1, h.ok.w64, h.ok.h1, h.ok.h64, h.ok.bits, h.ok.upd, by dsimp only; omega⟩⟩, ?_⟩
  exact (h3.mono fun q hq => .inl hq).trans (k3.mono fun q hq => .inr hq)
end
/-- Something that is done. -/
structure Cl where
  what : Int
  a : Int
  b : Int
  c : Int
  d : Int
  raw : Rc
  v : Value
  R : List Nat
  fail : Int
def clv (z : Cl) : List Value := [.int .u8 z.what, .int .u8 z.a, .int .u8 z.b, .int .u8 z.c, .int .u8 z.d, .int .i64 z.raw.x, .int .i64 z.raw.y, .int .i64 z.raw.w, .int .i64 z.raw.h, z.v, .int .i64 z.fail]
structure ClOk (W : World) (z : Cl) : Prop where
  what : 0 ≤ z.what ∧ z.what ≤ 255
  q : q4Ok z.a z.b z.c z.d
  raw : rcOk z.raw
  us : UsArg W z.v z.R
  fail : -9223372036854775808 ≤ z.fail ∧ z.fail ≤ 9223372036854775807
end Go.Proofs.YtmiennkldkcnfaaDoor
