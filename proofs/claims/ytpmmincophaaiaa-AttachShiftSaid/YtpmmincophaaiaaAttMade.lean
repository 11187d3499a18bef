/- Glyphs that numbers make, walked. No conditions. -/
import Derived.Test.YtpmmincophaaiaaAttMkP
import Derived.Test.YtpmmincophaaiaaAttGl
import Derived.Test.YtpmmincophaaiaaLast
namespace Go.Proofs.Ytpmmincophaaiaa
set_option maxRecDepth 100000
set_option linter.unusedVariables false
open Go.RowKit Go.Deep
theorem _root_.Go.Proofs.Ytpmmincophaaiaa.DwRow.grow {W W' : World} {B : Nat} {la : Option Addr} {L : List Int} {row : Option Nat} (h : DwRow W B la L) (hg : W.grownBy W' row) (hr : ∀ q, row = some q → B ≤ q) : DwRow W' B la L := by
  rcases h with h | ⟨g, o, e, h1, h2, h3⟩
  · exact .inl h
  · exact .inr ⟨g, o, e, h1, Nat.lt_of_lt_of_le h2 hg.size, fun i hi => (World.cell?_of_block (a := ⟨g, o + i, none⟩) (hg.block g h2 (fun e => by have := hr g e.symm; omega))).trans (h3 i hi)⟩
/-- In a round: a Draw in one block, a glyph in another one, its anchors in a row. -/
structure MkS (wr W : World) (Bd Bx : Nat) (la : Option Addr) (lc : Nat) (L : List Int) (a : Nat) (va : Value) (h : AT.An) (adv : Int) (l : List AT.An) : Prop where
  dw : DwB W Bd (.slice la L.length lc) a
  row : DwRow W wr.heap.size la L
  box : W.heap[Bx]? = some (.cells #[.slice none 0 0, va, .int .i64 h.1, .int .i64 h.2.1, .int .i64 h.2.2, .int .i64 adv] 35 (0, 0))
  an : W.ownsRow wr.heap.size 33 3 va l.length (anc l)
  off : ∀ q, va.ownBlock = some q → q ≠ Bd ∧ q ≠ Bx
  bel : Below wr.heap.size wr W
  le : wr.heap.size ≤ Bd ∧ Bd < Bx
theorem MkS.next {wr W W' : World} {Bd Bx : Nat} {la : Option Addr} {lc : Nat} {L : List Int} {a a' : Nat} {va : Value} {h : AT.An} {adv : Int} {l : List AT.An} (s : MkS wr W Bd Bx la lc L a va h adv l) (hg : W.grownBy W' (some Bd)) (hd : DwB W' Bd (.slice la L.length lc) a') : MkS wr W' Bd Bx la lc L a' va h adv l :=
  ⟨hd, s.row.grow hg (fun q e => by have := Option.some.inj e; have := s.le; omega), (hg.block Bx (Array.getElem?_eq_some_iff.1 s.box).1 (fun e => by have := Option.some.inj e; have := s.le; omega)).trans s.box,
    own_of_grown s.an hg (fun q hq e => (s.off q hq).1 (Option.some.inj e).symm), s.off, s.bel.grown hg s.bel.size (fun j e => by have := Option.some.inj e; have := s.le; omega), s.le⟩
theorem MkS.cell {wr W : World} {Bd Bx : Nat} {la : Option Addr} {lc : Nat} {L : List Int} {a : Nat} {va : Value} {h : AT.An} {adv : Int} {l : List AT.An} (s : MkS wr W Bd Bx la lc L a va h adv l) {j : Nat} {u : Value} (hu : (#[.slice none 0 0, va, .int .i64 h.1, .int .i64 h.2.1, .int .i64 h.2.2, .int .i64 adv] : Array Value)[j]? = some u) : W.cell? ⟨Bx, j, none⟩ = some u := by
  have := s.box
  simp only [World.cell?, this]
  exact hu
theorem MkS.frozen {wr W : World} {Bd Bx : Nat} {la : Option Addr} {lc : Nat} {L : List Int} {a : Nat} {va : Value} {h : AT.An} {adv : Int} {l : List AT.An} (s : MkS wr W Bd Bx la lc L a va h adv l) (j : Nat) : W.frozen? ⟨Bx, j, none⟩ = false := by
  have := s.box
  simp [World.frozen?, this]
theorem MkS.keep {wr W W' : World} {Bd Bx : Nat} {la : Option Addr} {lc : Nat} {L : List Int} {a : Nat} {va : Value} {h : AT.An} {adv : Int} {l : List AT.An} (s : MkS wr W Bd Bx la lc L a va h adv l) (hb : Below W.heap.size W W') : MkS wr W' Bd Bx la lc L a va h adv l :=
  ⟨s.dw.keep hb, s.row.keep hb, (hb.block Bx (Array.getElem?_eq_some_iff.1 s.box).1).trans s.box, own_below s.an hb, s.off, bnext s.bel hb, s.le⟩
theorem grownBy_of_drew {w w' : World} {row : Option Nat} (h : w.drew.grownBy w' row) : w.grownBy w' row := ⟨h.os, h.tape, h.output, h.size, h.block⟩
theorem MkS.drew {wr W : World} {Bd Bx : Nat} {la : Option Addr} {lc : Nat} {L : List Int} {a : Nat} {va : Value} {h : AT.An} {adv : Int} {l : List AT.An} (s : MkS wr W Bd Bx la lc L a va h adv l) : MkS wr W.drew Bd Bx la lc L a va h adv l :=
  ⟨s.dw, s.row, s.box, s.an, s.off, s.bel.drew, s.le⟩
theorem MkS.hang {wr W : World} {Bd Bx : Nat} {la : Option Addr} {lc : Nat} {L : List Int} {a : Nat} {va : Value} {h : AT.An} {adv : Int} {l : List AT.An} (s : MkS wr W Bd Bx la lc L a va h adv l) (z : AT.An) : MkS wr (((W.setCell ⟨Bx, 2, none⟩ (.int .i64 z.1)).setCell ⟨Bx, 3, none⟩ (.int .i64 z.2.1)).setCell ⟨Bx, 4, none⟩ (.int .i64 z.2.2)) Bd Bx la lc L a va z adv l := by
  have hle := s.le
  have hset : ∀ (V : World) (j : Nat) (u : Value) (k : Nat), k ≠ Bx → (V.setCell ⟨Bx, j, none⟩ u).heap[k]? = V.heap[k]? := fun V j u k hk => Below.heap_setCell _ _ _ k (fun e => hk (by rw [e]))
  have hg : W.grownBy (((W.setCell ⟨Bx, 2, none⟩ (.int .i64 z.1)).setCell ⟨Bx, 3, none⟩ (.int .i64 z.2.1)).setCell ⟨Bx, 4, none⟩ (.int .i64 z.2.2)) (some Bx) := ⟨rfl, rfl, rfl, by simp, fun k _ hk => by
    have hk' : k ≠ Bx := fun e => hk (by rw [e])
    rw [hset _ _ _ k hk', hset _ _ _ k hk', hset _ _ _ k hk']⟩
  exact ⟨(hg.block Bd s.dw.lt (fun e => by have := Option.some.inj e; omega)).trans s.dw, s.row.grow hg (fun q e => by have := Option.some.inj e; omega),
    heap_setCell_same _ Bx 4 _ _ (.int .i64 z.2.2) (heap_setCell_same _ Bx 3 _ _ (.int .i64 z.2.1) (heap_setCell_same W Bx 2 _ _ (.int .i64 z.1) s.box)),
    own_of_grown s.an hg (fun q h1 e => (s.off q h1).2 (Option.some.inj e).symm), s.off, s.bel.grown hg s.bel.size (fun q e => by have := Option.some.inj e; omega), hle⟩
theorem MkS.push {wr W W' : World} {Bd Bx : Nat} {la : Option Addr} {lc : Nat} {L : List Int} {a : Nat} {va v' : Value} {h : AT.An} {adv : Int} {l : List AT.An} {z : AT.An} (s : MkS wr W Bd Bx la lc L a va h adv l) (hg : W.grownBy W' va.ownBlock) (hown : W'.ownsRow wr.heap.size 33 3 v' (l.length + 1) (anc l ++ [.int .i64 z.1, .int .i64 z.2.1, .int .i64 z.2.2])) (hq : ∀ q, v'.ownBlock = some q → va.ownBlock = some q ∨ W.heap.size ≤ q) :
    W'.heap[Bx]? = some (.cells #[.slice none 0 0, va, .int .i64 h.1, .int .i64 h.2.1, .int .i64 h.2.2, .int .i64 adv] 35 (0, 0)) ∧ MkS wr (W'.setCell ⟨Bx, 1, none⟩ v') Bd Bx la lc L a v' h adv (l ++ [z]) := by
  have hbx : Bx < W.heap.size := (Array.getElem?_eq_some_iff.1 s.box).1
  have hbd : Bd < W.heap.size := s.dw.lt
  have hle := s.le
  have hx := (hg.block Bx hbx (fun e => (s.off Bx e.symm).2 rfl)).trans s.box
  have hdw : DwB W' Bd (.slice la L.length lc) a := (hg.block Bd hbd (fun e => (s.off Bd e.symm).1 rfl)).trans s.dw
  have hoff : ∀ q, v'.ownBlock = some q → q ≠ Bd ∧ q ≠ Bx := fun q h1 => by
    rcases hq q h1 with h2 | h2
    · exact s.off q h2
    · omega
  have hrow : DwRow W' wr.heap.size la L := s.row.grow hg (fun q e => (s.an.lt q e).1)
  have hbl : Below wr.heap.size wr W' := s.bel.grown hg s.bel.size (fun q e => (s.an.lt q e).1)
  have hset : ∀ k, k ≠ Bx → (W'.setCell ⟨Bx, 1, none⟩ v').heap[k]? = W'.heap[k]? := fun k hk => Below.heap_setCell _ _ _ k (fun e => hk (by rw [e]))
  have hgs : W'.grownBy (W'.setCell ⟨Bx, 1, none⟩ v') (some Bx) := ⟨rfl, rfl, rfl, by simp, fun k _ hk => hset k (fun e => hk (by rw [e]))⟩
  refine ⟨hx, (hset Bd (by omega)).trans hdw, hrow.grow hgs (fun q e => by have := Option.some.inj e; omega), (heap_setCell_same W' Bx 1 _ _ v' hx).trans rfl, ?_, hoff, bset hbl (by show wr.heap.size ≤ Bx; omega) v', hle⟩
  rw [List.length_append, anc_snoc]
  exact own_of_grown hown hgs (fun q h1 e => (hoff q h1).2 (Option.some.inj e).symm)
set_option maxHeartbeats 8000000 in
theorem made_any (LL : List (List Int)) (v : Value) (w : World) (hv : LLAt w v LL) (hlen : LL.length ≤ maxLen) :
    Calls Try.prog 11 #[v] w fun e w' => ∃ u X, e = .returned u ∧ OwnD w' w.heap.size u X ∧ X.map Prod.fst = AT.made LL ∧ Below w.heap.size w w' := by
  obtain ⟨i0, hi, hz0, hz1, hz2⟩ := info_parts info_dr
  obtain ⟨i1, hi1, hy0, hy1, hy2⟩ := info_parts info_an
  have HLL : Hid (∀ V, Below w.heap.size w V → LLAt V v LL) := Lib.hid fun V hV => hv.keep hV
  obtain ⟨a, cap, rfl, hc⟩ := hv
  obtain ⟨n, hn⟩ : ∃ n, LL.length = n := ⟨_, rfl⟩
  have HN := Lib.hid hn
  rw [hn] at hlen HLL ⊢
  unfold maxLen at hlen
  clear hc hn
  go_enter Try.func11, Try.ntmps11
  go_wp2_with fail
  go_loopw [3, 4] (fun v3 v4 wr => ∃ k X, v4 = .int .i64 ((k : Nat) : Int) ∧ k ≤ n ∧ k ≤ 12 ∧ X.length = k ∧ X.map Prod.fst = (LL.take k).map AT.mkDr ∧ OwnD wr w.heap.size v3 X ∧ Below w.heap.size w wr) (fun _ v _ => n - (intOf v).toNat)
  case atStart => exact ⟨0, [], rfl, Nat.zero_le _, by omega, rfl, rfl, OwnD.nil _ _, Below.refl _ _⟩
  case round =>
    obtain ⟨k, X, rfl, hk, hk12, hXl, hXm, hown, hb⟩ := hrel
    have HB := Lib.hid hb
    obtain ⟨ra, rc, hv3⟩ := own_shape hown.1
    subst hv3
    have HOWN := Lib.hid hown
    have HXM := Lib.hid hXm
    have HXL := Lib.hid hXl
    clear hb hown hXm
    obtain ⟨wo, hwo⟩ : ∃ wo, wo = wr := ⟨_, rfl⟩
    subst hwo
    rw [hXl] at HOWN ⊢
    clear hXl
    by_cases hin : k < n
    · have hii : (k : Int) < (n : Int) := by omega
      have hi0 : (0 : Int) ≤ (k : Int) := by omega
      by_cases hin12 : k < 12
      · have hii2 : (k : Int) < 12 := by omega
        obtain ⟨L, hLk⟩ : ∃ L, LL[k]? = some L := ⟨LL[k]'(by rw [HN.out]; exact hin), List.getElem?_eq_getElem _⟩
        obtain ⟨aw, cw, e1, hcw⟩ := HLL.out wo HB.out
        rw [HN.out] at e1
        injection e1 with e1 e2 e3
        subst e1 e3
        rcases hcw with h | ⟨g, o, rfl, hg, hcl⟩
        · rw [h] at hLk
          simp at hLk
        obtain ⟨la, lc, c0, hL, hrow⟩ := hcl k L hLk
        have HROW := Lib.hid hrow
        have HLK := Lib.hid hLk
        clear hcl hrow hLk
        go_upto_region 6 with fail
        obtain ⟨W1, hW1⟩ : ∃ W1, wo.alloc (.cells #[.slice la L.length lc, .int .i64 0] 48) = W1 := ⟨_, rfl⟩
        obtain ⟨Bd, hBd⟩ : ∃ Bd, wo.heap.size = Bd := ⟨_, rfl⟩
        have hd1 : DwB W1 Bd (.slice la L.length lc) 0 := by rw [← hW1, ← hBd]; exact heap_alloc_new wo _
        have hb1 : Below wo.heap.size wo W1 := by rw [← hW1]; exact balloc (Below.refl _ _) _
        have hr1 : DwRow W1 wo.heap.size la L := HROW.out.keep hb1
        rw [hW1, hBd]
        have HBD := Lib.hid hBd
        obtain ⟨p1, a1, e1⟩ : ∃ p1 a1, nx L 0 60 = (p1, a1) := ⟨_, _, rfl⟩
        obtain ⟨m, a2, e2⟩ : ∃ m a2, nx L a1 4 = (m, a2) := ⟨_, _, rfl⟩
        have bd1 := nx_bd L 0 (n := 60) (by omega) (Nat.zero_le _)
        rw [e1] at bd1
        have bd2 := nx_bd L a1 (n := 4) (by omega) bd1.2.2
        rw [e2] at bd2
        have ha1 : a1 ≤ L.length := bd1.2.2
        have ha2 : a2 ≤ L.length := bd2.2.2
        have hp1 : 0 ≤ p1 ∧ p1 < 60 := ⟨bd1.1, bd1.2.1⟩
        have hm : 0 ≤ m ∧ m < 4 := ⟨bd2.1, bd2.2.1⟩
        have HE1 := Lib.hid e1
        have HE2 := Lib.hid e2
        have HD1 := Lib.hid hd1
        have HR1 := Lib.hid hr1
        have HB1 := Lib.hid hb1
        clear hW1 hBd c0 hd1 hb1 hr1 e1 e2 bd1 bd2
        go_wp2_with fail
        refine (next_c HE1.out la lc Bd _ HD1.out (HR1.out.mono (by have := HBD.out; omega)) (Nat.zero_le _) hL (by omega) (by omega)).mono ?_
        rintro e w2 ⟨rfl, hd2, hr2, hg2⟩
        have HD2 := Lib.hid hd2
        have HR2 := Lib.hid (HR1.out.grow hg2 (fun q e => by have := Option.some.inj e; have := HBD.out; omega))
        have hb2 : Below wo.heap.size wo w2 := HB1.out.grown hg2 HB1.out.size (fun j e => by have := Option.some.inj e; have := HBD.out; omega)
        have HB2 := Lib.hid hb2
        clear hd2 hr2 hg2 hb2
        go_upto_region 7 with fail
        obtain ⟨W3, hW3⟩ : ∃ W3, w2.alloc (.cells #[.slice none 0 0, .slice none 0 0, .int .i64 0, .int .i64 0, .int .i64 0, .int .i64 (p1 - 10)] 35) = W3 := ⟨_, rfl⟩
        obtain ⟨Bx, hBx⟩ : ∃ Bx, w2.heap.size = Bx := ⟨_, rfl⟩
        have hs3 : MkS wo W3 Bd Bx la lc L a1 (.slice none 0 0) (0, 0, 0) (p1 - 10) [] := by
          have h23 : Below w2.heap.size w2 W3 := by rw [← hW3]; exact balloc (Below.refl _ _) _
          refine ⟨HD2.out.keep h23, HR2.out.keep h23, by rw [← hW3, ← hBx]; exact heap_alloc_new w2 _, ⟨rfl, .inl ⟨rfl, rfl⟩⟩, fun q hq => by simp [Value.ownBlock] at hq, bnext HB2.out h23, by have := HBD.out; omega, by rw [← hBx]; exact HD2.out.lt⟩
        rw [hW3, hBx]
        have HS3 := Lib.hid hs3
        clear hW3 hBx hs3
        go_wp2_with fail
        refine (next_c HE2.out la lc Bd _ HS3.out.dw (HS3.out.row.mono HS3.out.le.1) ha1 hL (by omega) (by omega)).mono ?_
        rintro e w4 ⟨rfl, hd4, hr4, hg4⟩
        have HS4 := Lib.hid (HS3.out.next hg4 hd4)
        clear hd4 hr4 hg4
        obtain ⟨mm, hmm⟩ : ∃ mm : Nat, m = (mm : Int) := ⟨m.toNat, by omega⟩
        have hmk : AT.mkMany L = (m, a2) := by unfold AT.mkMany; rw [HE1.out]; exact HE2.out
        have hmr : AT.mkRow L = AT.mkAns L a2 mm := by unfold AT.mkRow; rw [hmk, hmm]; rfl
        have HMR := Lib.hid hmr
        have hmm4 : mm < 4 := by omega
        subst hmm
        clear hmk hmr
        go_wp2_with fail
        go_loopw [8] (fun v8 wr => ∃ i a va vc, v8 = .int .i64 ((i : Nat) : Int) ∧ i ≤ mm ∧ a = (AT.mkAns L a2 i).2 ∧ MkS wo wr Bd Bx la lc L a (.slice va i vc) (0, 0, 0) (p1 - 10) (AT.mkAns L a2 i).1) (fun v _ => mm - (intOf v).toNat)
        case atStart => exact ⟨0, a2, none, 0, rfl, Nat.zero_le _, rfl, HS4.out⟩
        case round =>
          obtain ⟨i, a, va, vc, rfl, hi', ha, hs⟩ := hrel
          have HS := Lib.hid hs
          have HA := Lib.hid ha
          clear hs ha
          by_cases him : i < mm
          · have himi : (i : Int) < (mm : Int) := by omega
            obtain ⟨hln, hin2, hale⟩ := AT.mkAns_in L a2 ha2 i
            rw [← HA.out] at hale
            obtain ⟨z1, b1, e1⟩ : ∃ z b, nx L a 3 = (z, b) := ⟨_, _, rfl⟩
            obtain ⟨z2, b2, e2⟩ : ∃ z b, nx L b1 60 = (z, b) := ⟨_, _, rfl⟩
            obtain ⟨z3, b3, e3⟩ : ∃ z b, nx L b2 60 = (z, b) := ⟨_, _, rfl⟩
            have hz1 := nx_bd L a (n := 3) (by omega) hale
            rw [e1] at hz1
            have hz2 := nx_bd L b1 (n := 60) (by omega) hz1.2.2
            rw [e2] at hz2
            have hz3 := nx_bd L b2 (n := 60) (by omega) hz2.2.2
            rw [e3] at hz3
            have hmk : AT.mkAn L a = ((1 + z1, z2 - 20, z3 - 20), b3) := by
              unfold AT.mkAn
              simp only [e1, e2, e3]
            have HMK : Hid (AT.mkAns L a2 (i + 1) = ((AT.mkAns L a2 i).1 ++ [(1 + z1, z2 - 20, z3 - 20)], b3)) := Lib.hid (by
              show ((AT.mkAns L a2 i).1 ++ [(AT.mkAn L (AT.mkAns L a2 i).2).1], (AT.mkAn L (AT.mkAns L a2 i).2).2) = _
              rw [← HA.out, hmk])
            obtain ⟨g1, g2, g3⟩ := hz1
            obtain ⟨g4, g5, g6⟩ := hz2
            obtain ⟨g7, g8, g9⟩ := hz3
            simp only at g1 g2 g3 g4 g5 g6 g7 g8 g9
            have hw1 : IntKind.i64.wrap (1 + z1) = 1 + z1 := by rw [IntKind.wrap_i64]; omega
            have hw2 : IntKind.i64.wrap (z2 - 20) = z2 - 20 := by rw [IntKind.wrap_i64]; omega
            have hw3 : IntKind.i64.wrap (z3 - 20) = z3 - 20 := by rw [IntKind.wrap_i64]; omega
            have HE1' := Lib.hid e1
            have HE2' := Lib.hid e2
            have HE3' := Lib.hid e3
            obtain ⟨l, hl⟩ : ∃ l, (AT.mkAns L a2 i).1 = l := ⟨_, rfl⟩
            rw [hl] at hln HMK HS
            have HLN := Lib.hid hln
            have HSd := Lib.hid HS.out.drew
            have x1 : wr.cell? ⟨Bx, 1, none⟩ = some (.slice va i vc) := HS.out.cell (j := 1) rfl
            have xf : wr.frozen? ⟨Bx, 1, none⟩ = false := HS.out.frozen 1
            have hi1' := hi1
            clear hmk e1 e2 e3 hl hln hin2
            go_upto_region 11 with fail
            refine wp_region_last #[{ dst := some 36, op := Op.fieldAddr 35 (Operand.tmp 6) 1, type := 0, pos := "ref.go:88", after := #[], guard := none }, { dst := some 37, op := Op.load 31 (Operand.tmp 36), type := 31, pos := "ref.go:88", after := #[{ on := 0, ground := Ground.data }], guard := none }, { dst := some 38, op := Op.move (Operand.tmp 5), type := 45, pos := "ref.go:88", after := #[], guard := none }, { dst := some 39, op := Op.call { callee := Callee.value (Operand.func 17), args := #[Operand.tmp 38, Operand.const (Value.int IntKind.i64 3)], argTypes := #[45, 3] }, type := 3, pos := "ref.go:88", after := #[{ on := 2, ground := Ground.data }], guard := none }, { dst := some 40, op := Op.binOp BinOp.add 3 (Operand.const (Value.int IntKind.i64 1)) (Operand.tmp 39) 3, type := 3, pos := "ref.go:88", after := #[{ on := 3, ground := Ground.data }], guard := none }, { dst := some 41, op := Op.move (Operand.tmp 5), type := 45, pos := "ref.go:88", after := #[], guard := none }, { dst := some 42, op := Op.call { callee := Callee.value (Operand.func 17), args := #[Operand.tmp 41, Operand.const (Value.int IntKind.i64 60)], argTypes := #[45, 3] }, type := 3, pos := "ref.go:88", after := #[{ on := 5, ground := Ground.data }, { on := 3, ground := Ground.chain }], guard := none }, { dst := some 43, op := Op.binOp BinOp.sub 3 (Operand.tmp 42) (Operand.const (Value.int IntKind.i64 20)) 3, type := 3, pos := "ref.go:88", after := #[{ on := 6, ground := Ground.data }], guard := none }, { dst := some 44, op := Op.move (Operand.tmp 5), type := 45, pos := "ref.go:88", after := #[], guard := none }, { dst := some 45, op := Op.call { callee := Callee.value (Operand.func 17), args := #[Operand.tmp 44, Operand.const (Value.int IntKind.i64 60)], argTypes := #[45, 3] }, type := 3, pos := "ref.go:88", after := #[{ on := 8, ground := Ground.data }, { on := 6, ground := Ground.chain }], guard := none }, { dst := some 46, op := Op.binOp BinOp.sub 3 (Operand.tmp 45) (Operand.const (Value.int IntKind.i64 20)) 3, type := 3, pos := "ref.go:88", after := #[{ on := 9, ground := Ground.data }], guard := none }, { dst := some 47, op := Op.build 33 #[(0, Operand.tmp 40), (1, Operand.tmp 43), (2, Operand.tmp 46)], type := 33, pos := "ref.go:88", after := #[{ on := 4, ground := Ground.data }, { on := 7, ground := Ground.data }, { on := 10, ground := Ground.data }], guard := none }, { dst := some 48, op := Op.buildSlice 31 1 #[(0, Operand.tmp 47)], type := 31, pos := "ref.go:88", after := #[{ on := 11, ground := Ground.data }], guard := none }, { dst := some 49, op := Op.call { callee := Callee.builtin Builtin.append, args := #[Operand.tmp 37, Operand.tmp 48], argTypes := #[31, 31] }, type := 31, pos := "ref.go:88", after := #[{ on := 1, ground := Ground.data }, { on := 12, ground := Ground.data }, { on := 9, ground := Ground.chain }], guard := none }, { dst := some 50, op := Op.fieldAddr 35 (Operand.tmp 6) 1, type := 0, pos := "ref.go:88", after := #[{ on := 0, ground := Ground.phase }, { on := 1, ground := Ground.phase }, { on := 2, ground := Ground.phase }, { on := 3, ground := Ground.phase }, { on := 4, ground := Ground.phase }, { on := 5, ground := Ground.phase }, { on := 6, ground := Ground.phase }, { on := 7, ground := Ground.phase }, { on := 8, ground := Ground.phase }, { on := 9, ground := Ground.phase }, { on := 10, ground := Ground.phase }, { on := 11, ground := Ground.phase }, { on := 12, ground := Ground.phase }, { on := 13, ground := Ground.phase }], guard := none }] { dst := none, op := Op.store 31 (Operand.tmp 50) (Operand.tmp 49), type := 0, pos := "ref.go:88", after := #[{ on := 14, ground := Ground.data }, { on := 13, ground := Ground.data }, { on := 13, ground := Ground.chain }, { on := 0, ground := Ground.phase }, { on := 1, ground := Ground.phase }, { on := 2, ground := Ground.phase }, { on := 3, ground := Ground.phase }, { on := 4, ground := Ground.phase }, { on := 5, ground := Ground.phase }, { on := 6, ground := Ground.phase }, { on := 7, ground := Ground.phase }, { on := 8, ground := Ground.phase }, { on := 9, ground := Ground.phase }, { on := 10, ground := Ground.phase }, { on := 11, ground := Ground.phase }, { on := 12, ground := Ground.phase }, { on := 13, ground := Ground.phase }], guard := none } rfl (by kernel_rfl) (by kernel_rfl) (fun w' => w'.cell? ⟨Bx, 1, none⟩ = some (.slice va i vc)) ?_ (fun hHeld => ?_)
            · first | exact hS1 | exact HS6.out.cell (j := 1) rfl | exact HS5.out.cell (j := 1) rfl | exact HS4q.out.cell (j := 1) rfl | exact HS3q.out.cell (j := 1) rfl | exact x1
            refine wpAnyH_take (i := 0) (oi := { dst := some 36, op := Op.fieldAddr 35 (Operand.tmp 6) 1, type := 0, pos := "ref.go:88", after := #[], guard := none }) (v := ?_) rfl (by kernel_rfl) (by kernel_rfl) (by kernel_rfl) (fun _ _ _ h => h) (Or.inl ⟨by rfl, ?_⟩) (by assumption) ?_
            rotate_left
            · ((intro w hSw; (try dsimp only at hSw); go_simp; (try rw [if_neg (by omega)])); try with_reducible rfl)
            (try simp only [Act.put, List.setIfInBounds_toArray, List.set_cons_zero, List.set_cons_succ])
            refine wpAnyH_take (i := 1) (oi := { dst := some 37, op := Op.load 31 (Operand.tmp 36), type := 31, pos := "ref.go:88", after := #[{ on := 0, ground := Ground.data }], guard := none }) (v := ?_) rfl (by kernel_rfl) (by kernel_rfl) (by kernel_rfl) (fun _ _ _ h => h) (Or.inl ⟨by rfl, ?_⟩) (by assumption) ?_
            rotate_left
            · ((intro w hSw; (try dsimp only at hSw); go_simp; (try rw [if_neg (by omega)])); try with_reducible rfl)
            (try simp only [Act.put, List.setIfInBounds_toArray, List.set_cons_zero, List.set_cons_succ])
            refine wpAnyH_take (i := 2) (oi := { dst := some 38, op := Op.move (Operand.tmp 5), type := 45, pos := "ref.go:88", after := #[], guard := none }) (v := ?_) rfl (by kernel_rfl) (by kernel_rfl) (by kernel_rfl) (fun _ _ _ h => h) (Or.inl ⟨by rfl, ?_⟩) (by assumption) ?_
            rotate_left
            · ((intro w hSw; (try dsimp only at hSw); go_simp; (try rw [if_neg (by omega)])); try with_reducible rfl)
            (try simp only [Act.put, List.setIfInBounds_toArray, List.set_cons_zero, List.set_cons_succ])
            refine wpAnyH_take (i := 5) (oi := { dst := some 41, op := Op.move (Operand.tmp 5), type := 45, pos := "ref.go:88", after := #[], guard := none }) (v := ?_) rfl (by kernel_rfl) (by kernel_rfl) (by kernel_rfl) (fun _ _ _ h => h) (Or.inl ⟨by rfl, ?_⟩) (by assumption) ?_
            rotate_left
            · ((intro w hSw; (try dsimp only at hSw); go_simp; (try rw [if_neg (by omega)])); try with_reducible rfl)
            (try simp only [Act.put, List.setIfInBounds_toArray, List.set_cons_zero, List.set_cons_succ])
            refine wpAnyH_take (i := 8) (oi := { dst := some 44, op := Op.move (Operand.tmp 5), type := 45, pos := "ref.go:88", after := #[], guard := none }) (v := ?_) rfl (by kernel_rfl) (by kernel_rfl) (by kernel_rfl) (fun _ _ _ h => h) (Or.inl ⟨by rfl, ?_⟩) (by assumption) ?_
            rotate_left
            · ((intro w hSw; (try dsimp only at hSw); go_simp; (try rw [if_neg (by omega)])); try with_reducible rfl)
            (try simp only [Act.put, List.setIfInBounds_toArray, List.set_cons_zero, List.set_cons_succ])
            refine wpAnyH_ready (rs := [3]) (by kernel_rfl) (by simp) ?_
            refine AllReadyH.cons (o := { dst := some 39, op := Op.call { callee := Callee.value (Operand.func 17), args := #[Operand.tmp 38, Operand.const (Value.int IntKind.i64 3)], argTypes := #[45, 3] }, type := 3, pos := "ref.go:88", after := #[{ on := 2, ground := Ground.data }], guard := none }) rfl (fun K hK => ?_) AllReadyH.nil
            (go_simp; go_at_call 17; refine (next_c HE1'.out la lc Bd _ HSd.out.dw (HSd.out.row.mono HSd.out.le.1) (by omega) hL (by omega) (by omega)).mono ?_; rintro e w3 ⟨rfl, hd3, hr3, hg3⟩; have HS3q := Lib.hid (HSd.out.next (by first | exact hg3 | exact grownBy_of_drew hg3) hd3); dsimp only)
            refine hK.out _ _ ?_ (fun hHeld => ?_)
            · first | exact hS1 | exact HS6.out.cell (j := 1) rfl | exact HS5.out.cell (j := 1) rfl | exact HS4q.out.cell (j := 1) rfl | exact HS3q.out.cell (j := 1) rfl | exact x1
            clear hK K
            (try simp only [Act.put, List.setIfInBounds_toArray, List.set_cons_zero, List.set_cons_succ])
            refine wpAnyH_take (i := 4) (oi := { dst := some 40, op := Op.binOp BinOp.add 3 (Operand.const (Value.int IntKind.i64 1)) (Operand.tmp 39) 3, type := 3, pos := "ref.go:88", after := #[{ on := 3, ground := Ground.data }], guard := none }) (v := ?_) rfl (by kernel_rfl) (by kernel_rfl) (by kernel_rfl) (fun _ _ _ h => h) (Or.inl ⟨by rfl, ?_⟩) (by assumption) ?_
            rotate_left
            · ((intro w hSw; (try dsimp only at hSw); go_simp; (try rw [if_neg (by omega)])); try with_reducible rfl)
            (try simp only [Act.put, List.setIfInBounds_toArray, List.set_cons_zero, List.set_cons_succ])
            refine wpAnyH_ready (rs := [6]) (by kernel_rfl) (by simp) ?_
            refine AllReadyH.cons (o := { dst := some 42, op := Op.call { callee := Callee.value (Operand.func 17), args := #[Operand.tmp 41, Operand.const (Value.int IntKind.i64 60)], argTypes := #[45, 3] }, type := 3, pos := "ref.go:88", after := #[{ on := 5, ground := Ground.data }, { on := 3, ground := Ground.chain }], guard := none }) rfl (fun K hK => ?_) AllReadyH.nil
            (go_simp; go_at_call 17; refine (next_c HE2'.out la lc Bd _ hd3 (HS3q.out.row.mono HS3q.out.le.1) (by omega) hL (by omega) (by omega)).mono ?_; rintro e w4 ⟨rfl, hd4, hr4, hg4⟩; have HS4q := Lib.hid (HS3q.out.next (by first | exact hg4 | exact grownBy_of_drew hg4) hd4); dsimp only)
            refine hK.out _ _ ?_ (fun hHeld => ?_)
            · first | exact hS1 | exact HS6.out.cell (j := 1) rfl | exact HS5.out.cell (j := 1) rfl | exact HS4q.out.cell (j := 1) rfl | exact HS3q.out.cell (j := 1) rfl | exact x1
            clear hK K
            (try simp only [Act.put, List.setIfInBounds_toArray, List.set_cons_zero, List.set_cons_succ])
            refine wpAnyH_take (i := 7) (oi := { dst := some 43, op := Op.binOp BinOp.sub 3 (Operand.tmp 42) (Operand.const (Value.int IntKind.i64 20)) 3, type := 3, pos := "ref.go:88", after := #[{ on := 6, ground := Ground.data }], guard := none }) (v := ?_) rfl (by kernel_rfl) (by kernel_rfl) (by kernel_rfl) (fun _ _ _ h => h) (Or.inl ⟨by rfl, ?_⟩) (by assumption) ?_
            rotate_left
            · ((intro w hSw; (try dsimp only at hSw); go_simp; (try rw [if_neg (by omega)])); try with_reducible rfl)
            (try simp only [Act.put, List.setIfInBounds_toArray, List.set_cons_zero, List.set_cons_succ])
            refine wpAnyH_ready (rs := [9]) (by kernel_rfl) (by simp) ?_
            refine AllReadyH.cons (o := { dst := some 45, op := Op.call { callee := Callee.value (Operand.func 17), args := #[Operand.tmp 44, Operand.const (Value.int IntKind.i64 60)], argTypes := #[45, 3] }, type := 3, pos := "ref.go:88", after := #[{ on := 8, ground := Ground.data }, { on := 6, ground := Ground.chain }], guard := none }) rfl (fun K hK => ?_) AllReadyH.nil
            (go_simp; go_at_call 17; refine (next_c HE3'.out la lc Bd _ hd4 (HS4q.out.row.mono HS4q.out.le.1) (by omega) hL (by omega) (by omega)).mono ?_; rintro e w5 ⟨rfl, hd5, hr5, hg5⟩; have HS5 := Lib.hid (HS4q.out.next (by first | exact hg5 | exact grownBy_of_drew hg5) hd5); have HS6 := Lib.hid (HS5.out.keep (balloc (Below.refl _ w5) (.cells #[.int .i64 (1 + z1), .int .i64 (z2 - 20), .int .i64 (z3 - 20)] 33))); dsimp only)
            refine hK.out _ _ ?_ (fun hHeld => ?_)
            · first | exact hS1 | exact HS6.out.cell (j := 1) rfl | exact HS5.out.cell (j := 1) rfl | exact HS4q.out.cell (j := 1) rfl | exact HS3q.out.cell (j := 1) rfl | exact x1
            clear hK K
            (try simp only [Act.put, List.setIfInBounds_toArray, List.set_cons_zero, List.set_cons_succ])
            refine wpAnyH_take (i := 10) (oi := { dst := some 46, op := Op.binOp BinOp.sub 3 (Operand.tmp 45) (Operand.const (Value.int IntKind.i64 20)) 3, type := 3, pos := "ref.go:88", after := #[{ on := 9, ground := Ground.data }], guard := none }) (v := ?_) rfl (by kernel_rfl) (by kernel_rfl) (by kernel_rfl) (fun _ _ _ h => h) (Or.inl ⟨by rfl, ?_⟩) (by assumption) ?_
            rotate_left
            · ((intro w hSw; (try dsimp only at hSw); go_simp; (try rw [if_neg (by omega)])); try with_reducible rfl)
            (try simp only [Act.put, List.setIfInBounds_toArray, List.set_cons_zero, List.set_cons_succ])
            refine wpAnyH_take (i := 11) (oi := { dst := some 47, op := Op.build 33 #[(0, Operand.tmp 40), (1, Operand.tmp 43), (2, Operand.tmp 46)], type := 33, pos := "ref.go:88", after := #[{ on := 4, ground := Ground.data }, { on := 7, ground := Ground.data }, { on := 10, ground := Ground.data }], guard := none }) (v := ?_) rfl (by kernel_rfl) (by kernel_rfl) (by kernel_rfl) (fun _ _ _ h => h) (Or.inl ⟨by rfl, ?_⟩) (by assumption) ?_
            rotate_left
            · ((intro w hSw; (try dsimp only at hSw); go_simp; (try rw [if_neg (by omega)])); try with_reducible rfl)
            (try simp only [Act.put, List.setIfInBounds_toArray, List.set_cons_zero, List.set_cons_succ])
            refine wpAnyH_ready (rs := [12]) (by kernel_rfl) (by simp) ?_
            refine AllReadyH.cons (o := { dst := some 48, op := Op.buildSlice 31 1 #[(0, Operand.tmp 47)], type := 31, pos := "ref.go:88", after := #[{ on := 11, ground := Ground.data }], guard := none }) rfl (fun K hK => ?_) AllReadyH.nil
            go_simp
            refine hK.out _ _ ?_ (fun hHeld => ?_)
            · first | exact hS1 | exact HS6.out.cell (j := 1) rfl | exact HS5.out.cell (j := 1) rfl | exact HS4q.out.cell (j := 1) rfl | exact HS3q.out.cell (j := 1) rfl | exact x1
            clear hK K
            (try simp only [Act.put, List.setIfInBounds_toArray, List.set_cons_zero, List.set_cons_succ])
            refine wpAnyH_ready (rs := [13]) (by kernel_rfl) (by simp) ?_
            refine AllReadyH.cons (o := { dst := some 49, op := Op.call { callee := Callee.builtin Builtin.append, args := #[Operand.tmp 37, Operand.tmp 48], argTypes := #[31, 31] }, type := 31, pos := "ref.go:88", after := #[{ on := 1, ground := Ground.data }, { on := 12, ground := Ground.data }, { on := 9, ground := Ground.chain }], guard := none }) rfl (fun K hK => ?_) AllReadyH.nil
            (refine step_append_lies _ (by rfl) _ _ _ (by rfl) wo.heap.size 33 i1 _ 3 24 Try.underlying31 hi1 hy0 hy1 hy2 rfl (by omega) (.slice va i vc) _ _ (by rfl) HS6.out.an ⟨w5.heap.size, 0, none⟩ 1 1 [.int .i64 (1 + z1), .int .i64 (z2 - 20), .int .i64 (z3 - 20)] (by rfl) (by rfl) (World.news_of_block (cs := #[.int .i64 (1 + z1), .int .i64 (z2 - 20), .int .i64 (z3 - 20)]) (t := 33) (fr := (0, 0)) (heap_alloc_new w5 _)) (by simp [Value.oneCell']) (by omega) (by rw [HLN.out]; unfold maxLen; omega) (by rw [HLN.out]; omega) (by have := HS5.out.bel.size; simp; omega) (w5.heap.size + 1) (by simp) ?_; intro gg cap' w6 hown1 hgrow hat hlt; obtain ⟨hbx6, hs7⟩ := HS6.out.push (z := (1 + z1, z2 - 20, z3 - 20)) (v' := .slice (some ⟨gg, 0, none⟩) (l.length + 1) cap') hgrow hown1 (fun q hq => by simp only [Value.ownBlock, Option.some.injEq] at hq; subst hq; rcases hat with h | h; exact .inl h; exact .inr (by simp; omega)); have hS1 : w6.cell? ⟨Bx, 1, none⟩ = some (.slice va i vc) := (by simp only [World.cell?, hbx6]; rfl); have hfz : w6.frozen? ⟨Bx, 1, none⟩ = false := (by simp [World.frozen?, hbx6]))
            refine hK.out _ _ ?_ (fun hHeld => ?_)
            · first | exact hS1 | exact HS6.out.cell (j := 1) rfl | exact HS5.out.cell (j := 1) rfl | exact HS4q.out.cell (j := 1) rfl | exact HS3q.out.cell (j := 1) rfl | exact x1
            clear hK K
            (try simp only [Act.put, List.setIfInBounds_toArray, List.set_cons_zero, List.set_cons_succ])
            refine wpAnyH_take (i := 14) (oi := { dst := some 50, op := Op.fieldAddr 35 (Operand.tmp 6) 1, type := 0, pos := "ref.go:88", after := #[{ on := 0, ground := Ground.phase }, { on := 1, ground := Ground.phase }, { on := 2, ground := Ground.phase }, { on := 3, ground := Ground.phase }, { on := 4, ground := Ground.phase }, { on := 5, ground := Ground.phase }, { on := 6, ground := Ground.phase }, { on := 7, ground := Ground.phase }, { on := 8, ground := Ground.phase }, { on := 9, ground := Ground.phase }, { on := 10, ground := Ground.phase }, { on := 11, ground := Ground.phase }, { on := 12, ground := Ground.phase }, { on := 13, ground := Ground.phase }], guard := none }) (v := ?_) rfl (by kernel_rfl) (by kernel_rfl) (by kernel_rfl) (fun _ _ _ h => h) (Or.inl ⟨by rfl, ?_⟩) (by assumption) ?_
            rotate_left
            · ((intro w hSw; (try dsimp only at hSw); go_simp; (try rw [if_neg (by omega)])); try with_reducible rfl)
            (try simp only [Act.put, List.setIfInBounds_toArray, List.set_cons_zero, List.set_cons_succ])
            refine wpAnyH_done (by kernel_rfl) ?_ _
            show Oper.wp _ _ _ _ _ _
            have HS7 := Lib.hid hs7
            clear hs7 hown1 hgrow hat hlt hbx6
            have hf6 : w6.frozen? ⟨Bx, 1, none⟩ = false := hfz
            go_simp
            go_wp2
            go_roundw
            case rel => exact ⟨i + 1, b3, some ⟨gg, 0, none⟩, cap', by go_num, him, by rw [HMK.out], by rw [HMK.out]; have h7 := HS7.out; rw [HLN.out] at h7 ⊢; exact h7⟩
            case measure => simp [intOf]; omega
          · obtain rfl : i = mm := by omega
            have himi : ¬ (i : Int) < (i : Int) := by omega
            obtain ⟨t, b0, e0⟩ : ∃ t b0, nx L a 2 = (t, b0) := ⟨_, _, rfl⟩
            have hale : a ≤ L.length := by rw [HA.out]; exact (AT.mkAns_in L a2 ha2 i).2.2
            have ht := nx_bd L a (n := 2) (by omega) hale
            rw [e0] at ht
            obtain ⟨t1, t2, t3⟩ := ht
            simp only at t1 t2 t3
            have HE0 := Lib.hid e0
            have HRL : Hid ((AT.mkRow L).2 = a) := Lib.hid (by rw [HMR.out, HA.out])
            have HAV : Hid ((nx L 0 60).1 - 10 = p1 - 10) := Lib.hid (by rw [HE1.out])
            obtain ⟨l, hl⟩ : ∃ l, (AT.mkAns L a2 i).1 = l := ⟨_, rfl⟩
            rw [hl] at HS
            have HR0 : Hid ((AT.mkRow L).1 = l) := Lib.hid (by rw [HMR.out, hl])
            clear e0 hl
            go_upto_region 12 with fail
            go_wp2_with fail
            refine (next_c HE0.out la lc Bd _ HS.out.dw (HS.out.row.mono HS.out.le.1) hale hL (by omega) (by omega)).mono ?_
            rintro e w8 ⟨rfl, hd8, hr8, hg8⟩
            have HS8 := Lib.hid (HS.out.next hg8 hd8)
            clear hd8 hr8 hg8
            by_cases ht1 : t = 1
            · subst ht1
              obtain ⟨z1, b1, e1⟩ : ∃ z b, nx L b0 3 = (z, b) := ⟨_, _, rfl⟩
              obtain ⟨z2, b2, e2⟩ : ∃ z b, nx L b1 60 = (z, b) := ⟨_, _, rfl⟩
              obtain ⟨z3, b3, e3⟩ : ∃ z b, nx L b2 60 = (z, b) := ⟨_, _, rfl⟩
              have hz1 := nx_bd L b0 (n := 3) (by omega) t3
              rw [e1] at hz1
              have hz2 := nx_bd L b1 (n := 60) (by omega) hz1.2.2
              rw [e2] at hz2
              have hz3 := nx_bd L b2 (n := 60) (by omega) hz2.2.2
              rw [e3] at hz3
              have HDR : Hid (AT.mkDr L = ⟨l, (1 + z1, z2 - 20, z3 - 20), p1 - 10⟩) := Lib.hid (by
                unfold AT.mkDr
                rw [HRL.out, HE0.out, HAV.out, HR0.out]
                simp only [if_true]
                unfold AT.mkAn
                simp only [e1, e2, e3])
              obtain ⟨g1, g2, g3⟩ := hz1
              obtain ⟨g4, g5, g6⟩ := hz2
              obtain ⟨g7, g8, g9⟩ := hz3
              simp only at g1 g2 g3 g4 g5 g6 g7 g8 g9
              have hw1 : IntKind.i64.wrap (1 + z1) = 1 + z1 := by rw [IntKind.wrap_i64]; omega
              have hw2 : IntKind.i64.wrap (z2 - 20) = z2 - 20 := by rw [IntKind.wrap_i64]; omega
              have hw3 : IntKind.i64.wrap (z3 - 20) = z3 - 20 := by rw [IntKind.wrap_i64]; omega
              have HE1' := Lib.hid e1
              have HE2' := Lib.hid e2
              have HE3' := Lib.hid e3
              clear e1 e2 e3
              go_wp2_with fail
              refine (next_c HE1'.out la lc Bd _ HS8.out.dw (HS8.out.row.mono HS8.out.le.1) t3 hL (by omega) (by omega)).mono ?_
              rintro e w9 ⟨rfl, hd9, hr9, hg9⟩
              have HS9 := Lib.hid (HS8.out.next hg9 hd9)
              clear hd9 hr9 hg9
              go_wp2_with fail
              refine (next_c HE2'.out la lc Bd _ HS9.out.dw (HS9.out.row.mono HS9.out.le.1) g3 hL (by omega) (by omega)).mono ?_
              rintro e w10 ⟨rfl, hd10, hr10, hg10⟩
              have HS10 := Lib.hid (HS9.out.next hg10 hd10)
              clear hd10 hr10 hg10
              go_wp2_with fail
              refine (next_c HE3'.out la lc Bd _ HS10.out.dw (HS10.out.row.mono HS10.out.le.1) g6 hL (by omega) (by omega)).mono ?_
              rintro e w11 ⟨rfl, hd11, hr11, hg11⟩
              have HS11 := Lib.hid (HS10.out.next hg11 hd11)
              clear hd11 hr11 hg11
              have k2 := HS11.out.cell (j := 2) rfl
              have k3 := HS11.out.cell (j := 3) rfl
              have k4 := HS11.out.cell (j := 4) rfl
              have f2 := HS11.out.frozen 2
              have f3 := HS11.out.frozen 3
              have f4 := HS11.out.frozen 4
              go_upto_region 14 with fail
              obtain ⟨WF, hWF⟩ : ∃ WF, ((w11.setCell ⟨Bx, 2, none⟩ (.int .i64 (1 + z1))).setCell ⟨Bx, 3, none⟩ (.int .i64 (z2 - 20))).setCell ⟨Bx, 4, none⟩ (.int .i64 (z3 - 20)) = WF := ⟨_, rfl⟩
              have hsf := HS11.out.hang (1 + z1, z2 - 20, z3 - 20)
              simp only at hsf
              rw [hWF] at hsf ⊢
              have HSF := Lib.hid hsf
              clear hWF hsf k2 k3 k4 f2 f3 f4
              obtain ⟨ra', rc', hu⟩ : ∃ ra' rc', Value.slice ra k rc = Value.slice ra' k rc' := ⟨_, _, rfl⟩
              have y0 := HSF.out.cell (j := 0) rfl
              have y1 := HSF.out.cell (j := 1) rfl
              have y2 := HSF.out.cell (j := 2) rfl
              have y3 := HSF.out.cell (j := 3) rfl
              have y4 := HSF.out.cell (j := 4) rfl
              have y5 := HSF.out.cell (j := 5) rfl
              have hsz : w.heap.size ≤ WF.heap.size := Nat.le_trans HB.out.size HSF.out.bel.size
              clear hu
              go_upto_region 4 with (at_builtin; refine wpList_append_own_at _ rfl _ _ 24 rfl w.heap.size 35 i0 (.agg #[.slice none 0 0, .slice none 0 0, .int .i64 0, .int .i64 0, .int .i64 0, .int .i64 0]) 6 80 Try.underlying24 hi hz0 hz1 hz2 rfl (by decide) _ _ _ rfl ((own_below HOWN.out.1 HSF.out.bel).alloc _) ⟨WF.heap.size, 0, none⟩ 1 1 (drv ((⟨l, (1 + z1, z2 - 20, z3 - 20), p1 - 10⟩ : AT.Dr), .slice va i vc)) rfl rfl (cells_src WF _ _) (by simp [drv, Value.oneCell']) (by have := HXL.out; unfold maxLen; omega) (by have := HXL.out; omega) (by simp; omega) ?_; intro v' w1 hown' hgrow _ hat; obtain ⟨g', cap', rfl⟩ := ownsRow_succ hown')
              have hp := OwnD.push HOWN.out (balloc HSF.out.bel _) HB.out.size (own_below HSF.out.an (balloc (Below.refl _ WF) _)) hown' hgrow hat
              have hbw : Below w.heap.size w w1 := (bnext HB.out (balloc HSF.out.bel _)).grown hgrow (by simp; omega) (fun j ej => by have := (HOWN.out.1.lt j ej).1; omega)
              have HPU := Lib.hid hp
              have HBW := Lib.hid hbw
              clear hp hbw hown' hgrow hat
              go_wp2_with fail
              go_roundw
              case rel => exact ⟨k + 1, X ++ [((⟨l, (1 + z1, z2 - 20, z3 - 20), p1 - 10⟩ : AT.Dr), .slice va i vc)], by go_num, hin, by omega, by rw [List.length_append, HXL.out]; rfl, by rw [List.map_append, HXM.out, List.take_add_one, HLK.out]; simp only [Option.toList_some, List.map_append, List.map_cons, List.map_nil, HDR.out], HPU.out, HBW.out⟩
              case measure => simp [intOf]; omega
            · have hq1 : (t == 1) = false := by simpa using ht1
              have HDR : Hid (AT.mkDr L = ⟨l, (0, 0, 0), p1 - 10⟩) := Lib.hid (by
                unfold AT.mkDr
                rw [HRL.out, HE0.out, HAV.out, HR0.out]
                simp only [if_neg ht1])
              have HSF := Lib.hid HS8.out
              obtain ⟨WF, hWF⟩ : ∃ WF, w8 = WF := ⟨_, rfl⟩
              subst hWF
              obtain ⟨ra', rc', hu⟩ : ∃ ra' rc', Value.slice ra k rc = Value.slice ra' k rc' := ⟨_, _, rfl⟩
              have y0 := HSF.out.cell (j := 0) rfl
              have y1 := HSF.out.cell (j := 1) rfl
              have y2 := HSF.out.cell (j := 2) rfl
              have y3 := HSF.out.cell (j := 3) rfl
              have y4 := HSF.out.cell (j := 4) rfl
              have y5 := HSF.out.cell (j := 5) rfl
              have hsz : w.heap.size ≤ w8.heap.size := Nat.le_trans HB.out.size HSF.out.bel.size
              clear hu
              go_upto_region 4 with (at_builtin; refine wpList_append_own_at _ rfl _ _ 24 rfl w.heap.size 35 i0 (.agg #[.slice none 0 0, .slice none 0 0, .int .i64 0, .int .i64 0, .int .i64 0, .int .i64 0]) 6 80 Try.underlying24 hi hz0 hz1 hz2 rfl (by decide) _ _ _ rfl ((own_below HOWN.out.1 HSF.out.bel).alloc _) ⟨w8.heap.size, 0, none⟩ 1 1 (drv ((⟨l, (0, 0, 0), p1 - 10⟩ : AT.Dr), .slice va i vc)) rfl rfl (cells_src w8 _ _) (by simp [drv, Value.oneCell']) (by have := HXL.out; unfold maxLen; omega) (by have := HXL.out; omega) (by simp; omega) ?_; intro v' w1 hown' hgrow _ hat; obtain ⟨g', cap', rfl⟩ := ownsRow_succ hown')
              have hp := OwnD.push HOWN.out (balloc HSF.out.bel _) HB.out.size (own_below HSF.out.an (balloc (Below.refl _ w8) _)) hown' hgrow hat
              have hbw : Below w.heap.size w w1 := (bnext HB.out (balloc HSF.out.bel _)).grown hgrow (by simp; omega) (fun j ej => by have := (HOWN.out.1.lt j ej).1; omega)
              have HPU := Lib.hid hp
              have HBW := Lib.hid hbw
              clear hp hbw hown' hgrow hat
              go_wp2_with fail
              go_roundw
              case rel => exact ⟨k + 1, X ++ [((⟨l, (0, 0, 0), p1 - 10⟩ : AT.Dr), .slice va i vc)], by go_num, hin, by omega, by rw [List.length_append, HXL.out]; rfl, by rw [List.map_append, HXM.out, List.take_add_one, HLK.out]; simp only [Option.toList_some, List.map_append, List.map_cons, List.map_nil, HDR.out], HPU.out, HBW.out⟩
              case measure => simp [intOf]; omega
      · obtain rfl : k = 12 := by omega
        have HM : Hid (AT.made LL = X.map Prod.fst) := Lib.hid (by rw [HXM.out]; rfl)
        go_wp2
        go_ret
        exact ⟨_, X, rfl, HOWN.out, HM.out.symm, HB.out⟩
    · obtain rfl : k = n := by omega
      have HM : Hid (AT.made LL = X.map Prod.fst) := Lib.hid (by rw [HXM.out]; unfold AT.made; rw [List.take_of_length_le (by rw [HN.out]; omega), List.take_of_length_le (by rw [HN.out]; omega)])
      go_wp2
      go_ret
      exact ⟨_, X, rfl, HOWN.out, HM.out.symm, HB.out⟩
end Go.Proofs.Ytpmmincophaaiaa
