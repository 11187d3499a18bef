/- The iterator over a ring. No conditions. -/
import Derived.Test.YtmnajongifdajaaMem11
import Derived.Test.YtmnajongifdajaaNeed
import Derived.LaidEqlPtr
import Derived.Lib.Builder
import Derived.Test.YtmnajongifdajaaHeldIn
import Derived.Test.YtmnajongifdajaaLater
import Derived.Shelf.RegionOpen
import Derived.Stop.RegionWithIn
import Derived.LoopIn
import Derived.Sort.CutIn
namespace Go.Proofs.Ytmnajongifdajaa
set_option maxRecDepth 100000
set_option linter.unusedVariables false
open Go.RowKit Go.Shelf Go.Deep
attribute [local go_sem] Oper.semAt_some
theorem ring_info : (Try.prog.info? 78).map (fun i => i.size) = some 8 := by kernel_rfl
theorem ring_info' : ∃ j, Try.prog.info? 78 = some j ∧ j.size ≠ 0 := by
  have h := ring_info
  cases h1 : Try.prog.info? 78 with
  | none => rw [h1] at h; cases h
  | some j =>
    rw [h1] at h
    refine ⟨j, rfl, ?_⟩
    have : j.size = 8 := Option.some.inj h
    omega
theorem neq_same (W : World) (b : Nat) : (binOp .neq 63 (ptr b) (ptr b)).run Try.prog W = .ok (.bool false) W := by
  obtain ⟨j, hj, -⟩ := ring_info'
  exact Lib.run_neq_ptr_same W _ Try.underlying63 hj
theorem run_neq_ptr_other {P : Program} (w : World) {tp te : TypeId} {j : TypeInfo} {a b : Addr} {ca cb : Array Value} {ta tb : TypeId} (hp : P.underlying tp = some (.pointer te)) (hte : P.info? te = some j) (hsz : j.size ≠ 0)
    (hne : a ≠ b) (ha : w.heap[a.block]? = some (.cells ca ta (0, 0))) (hb : w.heap[b.block]? = some (.cells cb tb (0, 0))) :
    (binOp .neq tp (.pointer (some a)) (.pointer (some b))).run P w = .ok (.bool true) w := by
  have h : ∀ d : Nat, (Op.equalIn (d + 1) tp (.pointer (some a)) (.pointer (some b))).run P w = .ok false w := fun d => by
    simp [Op.equalIn, run_underlying hp, sizeOf, typeInfo, hte, hsz, run_sameAddr_other w hne ha hb]
  simp only [binOp]
  simp [Op.equal, Op.maxDepth, h 9999]
theorem neq_nd {W : World} {a b : Nat} {ea eb : En} {pa qa pb qb : Value} (ha : Nd W a ea pa qa) (hb : Nd W b eb pb qb) (hne : a ≠ b) : (binOp .neq 63 (ptr a) (ptr b)).run Try.prog W = .ok (.bool true) W := by
  obtain ⟨j, hj, h0⟩ := ring_info'
  exact run_neq_ptr_other W Try.underlying63 hj h0 (fun e => hne (by injection e)) ha hb
theorem all_any (root : Nat) (w : World) :
    Calls Try.prog 34 #[ptr root] w fun e w' => e = .returned (.func (.func 39) #[] #[.pointer (some ⟨w.heap.size, 0, none⟩)]) ∧ w' = w.alloc (.cells #[ptr root] 63) := by
  go_enter Try.func34, Try.ntmps34
  go_wp2
  go_ret
  exact ⟨rfl, rfl⟩
/-- What the iterator needs: its box, and the ring; what is to come stands at the ring's end. -/
def AllN (root c : Nat) (L pre : List (Nat × En)) (W : World) : Prop := W.cell? ⟨c, 0, none⟩ = some (ptr root) ∧ ∃ A R, L = pre ++ R ∧ (pre = [] → A = []) ∧ Rg W root (A ++ R)
/-- What a round is told. -/
def AllG (L pre : List (Nat × En)) (x : Nat × En) (_ : World) : Prop := ∃ R, L = pre ++ x :: R
def encA (x : Nat × En) : Array Value := #[ptr x.1]
def blkOf (v : Value) : Nat := match v with | .pointer (some a) => a.block | _ => 0
theorem idx_hd {root : Nat} {L pre R : List (Nat × En)} (hn : (root :: L.map Prod.fst).Nodup) (h : L = pre ++ R) : (L.map Prod.fst).idxOf (hd R root) = pre.length := by
  subst h
  have h1 := List.nodup_cons.1 hn
  rw [List.map_append] at h1 ⊢
  cases R with
  | nil =>
    have h2 : root ∉ pre.map Prod.fst ++ ([] : List (Nat × En)).map Prod.fst := h1.1
    show List.idxOf root _ = _
    rw [List.idxOf_eq_length h2]
    simp
  | cons x R =>
    have h2 : x.1 ∉ pre.map Prod.fst := fun hx => (List.nodup_append.1 h1.2).2.2 _ hx x.1 (by simp) rfl
    show List.idxOf x.1 _ = _
    rw [List.idxOf_append, if_neg h2, List.map_cons, List.idxOf_cons_self]
    simp
set_option maxHeartbeats 4000000 in
theorem all_in (m : Nat) (hm : 1 ≤ m) (l root c : Nat) (L : List (Nat × En)) (J Jx : List (Nat × En) → World → Prop)
    (W : World) (hJ : AbidesFrom W.heap.size J) (hN : ∀ pre W1, J pre W1 → AllN root c L pre W1)
    (hY : ∀ pre x W1, J pre W1 → AllG L pre x W1 → YieldAt Fence.wide (m - 1) Try.prog l (encA x) W1 fun e W' =>
      (e = .returned (.bool true) ∧ J (pre ++ [x]) W') ∨ (e = .returned (.bool false) ∧ Jx (pre ++ [x]) W')) (h0 : J [] W) :
    CallsIn Fence.wide m Try.prog 39 #[.func (.yield l) #[] #[], .pointer (some ⟨c, 0, none⟩)] W fun e W' => (∃ v, e = .returned v) ∧
      ((∃ ys : List (Nat × En), ys = L ∧ J ys W') ∨ (∃ pre : List (Nat × En), (∃ R, L = pre ++ R) ∧ Jx pre W')) := by
  have HN := Lib.hid hN
  have HY := Lib.hid hY
  have H0 := Lib.hid h0
  obtain ⟨c1, A, R, hLR, hA, hrg⟩ := hN [] W h0
  obtain rfl := hA rfl
  obtain rfl : L = R := hLR
  have HND := Lib.hid (show (root :: L.map Prod.fst).Nodup from hrg.1)
  have r7 := hrg.2.1.after
  clear hJ hN hY h0 hA hrg
  refine callsIn_of_wp Try.func39 rfl trivial ?_ rfl
  simp only [Try.ntmps39, List.size_toArray, List.length_cons, List.length_nil, Nat.reduceAdd, Nat.reduceSub, Array.replicate_succ, Array.replicate_zero, List.push_toArray, List.append_toArray, List.nil_append, List.cons_append]
  gi_wp2
  gi_loopw [3] (fun v wr => ∃ (pre R : List (Nat × En)), L = pre ++ R ∧ v = ptr (hd R root) ∧ J pre wr) (fun v _ => L.length - (L.map Prod.fst).idxOf (blkOf v))
  case atStart => exact ⟨[], L, rfl, rfl, H0.out⟩
  case round =>
    clear H0 c1 r7
    obtain ⟨pre, R, hL, rfl, hj⟩ := hrel
    obtain ⟨c1, A, R', hL', -, hrg⟩ := HN.out pre wr hj
    obtain rfl : R = R' := List.append_cancel_left (hL.symm.trans hL')
    have HL := Lib.hid hL
    cases R with
    | nil =>
      simp only [List.append_nil] at hL
      have HJ1 := Lib.hid hj
      have hnq := neq_same wr root
      clear hj hrg hL'
      rw [show hd [] root = root from rfl]
      gi_wp2
      go_end0
      exact ⟨⟨_, rfl⟩, .inl ⟨pre, hL.symm, HJ1.out⟩⟩
    | cons x R =>
      obtain ⟨hx, -, -, hxr, -⟩ := hrg.parts
      have x7 := hx.after
      have hrn := hrg.2.1
      have hxne : x.1 ≠ root := fun e => (List.nodup_cons.1 hrg.1).1 (by rw [← e]; simp)
      have hnq := neq_nd hx hrn hxne
      obtain ⟨fn, tmps, assign, body, hy, hR⟩ := HY.out pre x _ hj ⟨R, hL⟩
      simp only [encA] at hy
      have i1 := idx_hd HND.out hL
      have i2 := idx_hd (R := R) HND.out (show L = (pre ++ [x]) ++ R by rw [HL.out]; simp)
      have hlen : L.length = pre.length + R.length + 1 := by rw [HL.out]; simp; omega
      have I1 := Lib.hid i1
      have I2 := Lib.hid i2
      have HLN := Lib.hid hlen
      obtain ⟨nx, hnx⟩ : ∃ nx, hd R root = nx := ⟨_, rfl⟩
      rw [hnx] at x7
      have HNX := Lib.hid hnx
      clear hj hrg hL' hL hx hxr hrn i1 i2 hlen hnx
      rw [show hd (x :: R) root = x.1 from rfl]
      gi_wp2
      refine hR.mono ?_
      rintro e W3 (⟨rfl, hJ3⟩ | ⟨rfl, hJx3⟩)
      · gi_wp2
        refine ⟨⟨pre ++ [x], R, by rw [HL.out]; simp, by rw [HNX.out], hJ3⟩, ?_⟩
        have j1 := I1.out
        have j2 := I2.out
        rw [HNX.out] at j2
        rw [show hd (x :: R) root = x.1 from rfl] at j1
        have j3 := HLN.out
        show L.length - (L.map Prod.fst).idxOf nx < L.length - (L.map Prod.fst).idxOf x.1
        rw [List.length_append, List.length_singleton] at j2
        rw [j1, j2, j3]
        omega
      · gi_wp2
        refine bodyPost_ret (results_none rfl _ _ _) rfl ?_
        exact ⟨⟨_, rfl⟩, .inr ⟨_, ⟨R, by rw [HL.out]; simp⟩, hJx3⟩⟩
theorem all_need (m : Nat) (hm : 1 ≤ m) (root c : Nat) (L : List (Nat × En)) (w : World) :
    SeqNeed Fence.wide m Try.prog 39 #[.pointer (some ⟨c, 0, none⟩)] encA (AllN root c L) (AllG L) (fun ys => ys = L) (fun pre => ∃ R, L = pre ++ R) w := fun l J Jx W _ hJ _ hN hY h0 =>
  all_in m hm l root c L J Jx W hJ hN hY h0
end Go.Proofs.Ytmnajongifdajaa
