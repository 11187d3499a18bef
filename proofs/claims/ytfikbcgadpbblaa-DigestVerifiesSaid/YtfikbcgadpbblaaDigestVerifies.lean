/- For every list of strings, leaf and change DigestVerifies returns true: proofs are accepted and refused as by the reference. No conditions. -/
import Derived.Test.YtfikbcgadpbblaaDigChg
import Derived.ChangeMaps5
namespace Go.Proofs.Ytfikbcgadpbblaa.digestVerifies
open Go.ChangeShapes Go.WideShapes Go.ChangeAt Go.RowKit Go.Joins Go.Deep Go.ChangeMaps
set_option linter.unusedVariables false

theorem and_65535 (n : Int) : bits .and .i64 n 65535 = n % 65536 := by
  have h127 : (BitVec.ofInt 64 65535).toNat = 2 ^ 16 - 1 := by decide
  have key : (BitVec.ofInt 64 n &&& BitVec.ofInt 64 65535).toNat = (n % ((2 ^ 64 : Nat) : Int)).toNat % 2 ^ 16 := by
    rw [BitVec.toNat_and, BitVec.toNat_ofInt, h127, Nat.and_two_pow_sub_one_eq_mod]
  show IntKind.i64.wrap ((BitVec.ofInt 64 n &&& BitVec.ofInt 64 65535).toNat : Nat) = n % 65536
  rw [key, IntKind.wrap_i64]
  omega
theorem and_31 (n : Int) : bits .and .i64 n 31 = n % 32 := by
  have h127 : (BitVec.ofInt 64 31).toNat = 2 ^ 5 - 1 := by decide
  have key : (BitVec.ofInt 64 n &&& BitVec.ofInt 64 31).toNat = (n % ((2 ^ 64 : Nat) : Int)).toNat % 2 ^ 5 := by
    rw [BitVec.toNat_and, BitVec.toNat_ofInt, h127, Nat.and_two_pow_sub_one_eq_mod]
  show IntKind.i64.wrap ((BitVec.ofInt 64 n &&& BitVec.ofInt 64 31).toNat : Nat) = n % 32
  rw [key, IntKind.wrap_i64]
  omega
theorem and_3 (n : Int) : bits .and .i64 n 3 = n % 4 := by
  have h127 : (BitVec.ofInt 64 3).toNat = 2 ^ 2 - 1 := by decide
  have key : (BitVec.ofInt 64 n &&& BitVec.ofInt 64 3).toNat = (n % ((2 ^ 64 : Nat) : Int)).toNat % 2 ^ 2 := by
    rw [BitVec.toNat_and, BitVec.toNat_ofInt, h127, Nat.and_two_pow_sub_one_eq_mod]
  show IntKind.i64.wrap ((BitVec.ofInt 64 n &&& BitVec.ofInt 64 3).toNat : Nat) = n % 4
  rw [key, IntKind.wrap_i64]
  omega
theorem rroot_c {L : List ByteArray} {h n : Nat} {z : ByteArray} {a : Option Addr} {c : Nat} {w : World} (hn : L.length = n) (hz : DG.root L h = z) (hr : Src w (.slice a n c) (L.map Value.string)) (hL : L.length ≤ 1000000) (hs : ∀ s ∈ L, s.size < 2147483648) (hh : DG.IsH L.length h) :
    Calls Try.prog 22 #[.slice a n c] w fun e W' => e = .returned (.string z) ∧ Below w.heap.size w W' := by
  subst hn hz; exact rroot_any a c L h w hr hL hs hh
theorem rproof_k {L l : List ByteArray} {h n k : Nat} {a : Option Addr} {c : Nat} {w : World} (hn : L.length = n) (hl : DG.prf L k h = l) (hr : Src w (.slice a n c) (L.map Value.string)) (hL : L.length ≤ 1000000) (hs : ∀ s ∈ L, s.size < 2147483648) (hh : DG.IsH L.length h) (hk : k < n) :
    Calls Try.prog 20 #[.slice a n c, .int .i64 (k : Int)] w fun e W' => ∃ pa pc, e = .returned (.slice pa h pc) ∧ Src W' (.slice pa h pc) (l.map Value.string) ∧ h ≤ pc ∧ Below w.heap.size w W' := by
  subst hn
  have hp : DG.proof L h (k : Int) = l := by unfold DG.proof; rw [if_pos (by omega), ← hl]; rfl
  have hlen : l.length = h := by rw [← hl, DG.prf_len]
  refine (rproof_any a c L h k w hr hL hs hh).mono fun e W' ⟨v, he, hv, hb⟩ => ?_
  rw [hp, hlen] at hv
  obtain ⟨pa, pc, rfl⟩ := own_shape hv
  refine ⟨pa, pc, he, own_src hv (by rw [List.length_map, hlen]), ?_, hb⟩
  rcases hv.2 with ⟨e1, e2⟩ | ⟨g, cap, cur, e1, _, _, e2, _⟩
  · omega
  · injection e1 with _ _ e3
    omega
set_option maxRecDepth 100000 in
set_option maxHeartbeats 16000000 in
theorem walk (v0 : Value) (a0 : List ByteArray) (a1 : ByteArray) (x2 : Int) (y2 : Int) (z2 : Int) (s2 : ByteArray) (wa1 : a1.size ≤ maxLen) (wx2 : (Lit.int .i64 x2).wf = true) (wy2 : (Lit.int .i64 y2).wf = true) (wz2 : (Lit.int .i64 z2).wf = true) (ws2 : s2.size ≤ maxLen) (w : World) (H0 : RowAt w v0 (a0.map Value.string)) (L0 : a0.length ≤ maxLen ∧ ∀ a n c, v0 = .slice a n c → n ≤ c) (E0 : ∀ x, x ∈ a0 → x.size ≤ maxLen) :
    Calls Try.prog 5 #[v0, .string a1, .agg #[.int .i64 x2, .int .i64 y2, .int .i64 z2, .string s2]] w fun e w' => e = .returned (.bool true) ∧ Below w.heap.size w w' := by
  obtain ⟨M, hM⟩ : ∃ M, DG.few a0 20 = M := ⟨_, rfl⟩
  have hMs : ∀ s ∈ M, s.size < 2147483648 := by rw [← hM]; exact few_small _ _
  have hMl : M.length ≤ 20 := by rw [← hM]; exact DG.few_len _ _
  obtain ⟨h, hh⟩ := DG.exists_h M.length
  have h20 := hh.le20 (by omega)
  have HF := Lib.hid (fun W hW => few_c (w := W) hM (H0.keep hW) E0 L0.1)
  obtain ⟨n, hn⟩ : ∃ n, M.length = n := ⟨_, rfl⟩
  have HN := Lib.hid hn
  have HH := Lib.hid hh
  have HMS := Lib.hid hMs
  rw [hn] at HF hMl
  have acc : Below w.heap.size w w := Below.refl _ _
  obtain ⟨R, hR⟩ : ∃ R, DG.root M h = R := ⟨_, rfl⟩
  have HRT := Lib.hid hR
  have HZ := Lib.hid wa1
  have HX2 := Lib.hid (bd64 wx2)
  have HS2 := Lib.hid ws2
  obtain ⟨i0, hif, hz0, hz1, hz2⟩ := info_parts info_string
  clear hR wa1 wx2 wy2 wz2 ws2
  clear hM hMs hh hn H0 L0 E0
  go_enter Try.func5, Try.ntmps5
  go_wp2_with fail
  have hbx := heap_alloc_new w (.cells #[.int .i64 x2, .int .i64 y2, .int .i64 z2, .string s2] 33)
  have hac := Below.alloc (Below.refl w.heap.size w) (Nat.le_refl _) (.cells #[.int .i64 x2, .int .i64 y2, .int .i64 z2, .string s2] 33)
  have hsz : w.heap.size < (w.alloc (.cells #[.int .i64 x2, .int .i64 y2, .int .i64 z2, .string s2] 33)).heap.size := by simp
  obtain ⟨B, hB⟩ : ∃ B, w.heap.size = B := ⟨_, rfl⟩
  rw [hB] at hbx hsz ⊢
  generalize w.alloc (.cells #[.int .i64 x2, .int .i64 y2, .int .i64 z2, .string s2] 33) = W0 at hbx hac hsz ⊢
  have HB0 : Hid (∀ V, Below W0.heap.size W0 V → V.cell? ⟨B, 0, none⟩ = some (.int .i64 x2) ∧ V.cell? ⟨B, 1, none⟩ = some (.int .i64 y2) ∧ V.cell? ⟨B, 2, none⟩ = some (.int .i64 z2) ∧ V.cell? ⟨B, 3, none⟩ = some (.string s2)) := Lib.hid fun V hV => by
    have := (hV.block B hsz).trans hbx
    exact ⟨by simp [World.cell?, this], by simp [World.cell?, this], by simp [World.cell?, this], by simp [World.cell?, this]⟩
  have HBE := Lib.hid hB
  replace acc := hac
  clear hbx hac hB
  refine (sane_any _).mono ?_
  rintro e w1 ⟨rfl, k1⟩
  have acb := k1
  replace acc := bnext acc k1
  clear k1
  go_wp2_with fail
  refine (HF.out _ acc).mono ?_
  rintro e w2 ⟨v, rfl, hv, k2⟩
  replace acc := bnext acc k2
  replace acb := bnext acb k2
  obtain ⟨va, vc, rfl⟩ := own_shape hv
  have hrow := row_own hv (by rw [List.length_map, HN.out])
  have hsrc := own_src hv (by rw [List.length_map, HN.out])
  have HR := Lib.hid hrow
  have HSRC := Lib.hid hsrc
  clear hv k2 hrow hsrc HF
  go_upto_region 3 with (fail)
  go_cut [1] from 23 to 27 (fun s1 wx => wx = w2 ∧ ∃ s : ByteArray, s1 = .string s ∧ s.size ≤ 40)
  case first =>
    have hzz := HZ.out
    unfold maxLen at hzz
    go_wp2
    all_goals
      go_meet
      case rel => exact ⟨rfl, _, rfl, by first | omega | (rw [ByteArray.size_extract]; omega)⟩
  case rest =>
    obtain ⟨rfl, s, rfl, hs40⟩ := hcut
    have HRO := Lib.hid (rroot_c (w := wc) HN.out HRT.out HSRC.out (by rw [HN.out]; omega) HMS.out HH.out)
    go_wp2_with fail
    refine HRO.out.mono ?_
    rintro e w3 ⟨rfl, k3⟩
    replace acc := bnext acc k3
    replace acb := bnext acb k3
    replace HR := Lib.hid (HR.out.keep k3)
    replace HSRC := Lib.hid (HSRC.out.keep k3)
    have HBB : Hid (∀ V, Below w3.heap.size w3 V → V.cell? ⟨B, 0, none⟩ = some (.int .i64 x2) ∧ V.cell? ⟨B, 1, none⟩ = some (.int .i64 y2) ∧ V.cell? ⟨B, 2, none⟩ = some (.int .i64 z2) ∧ V.cell? ⟨B, 3, none⟩ = some (.string s2)) := by
      have hac := acb
      exact Lib.hid fun V hV => HB0.out V (bnext hac hV)
    have HSZ : Hid (B < w3.heap.size) := Lib.hid (Nat.lt_of_lt_of_le hsz acb.size)
    clear k3 HRO HB0 acb hsz
    go_wp2
    go_loopw [9] (fun v9 wr => ∃ k : Nat, v9 = .int .i64 (k : Int) ∧ k ≤ n ∧ Below w3.heap.size w3 wr) (fun v _ => n - (intOf v).toNat)
    case atStart => exact ⟨0, rfl, Nat.zero_le _, Below.refl _ _⟩
    case round =>
      obtain ⟨k, rfl, hk, hb⟩ := hrel
      by_cases hkn : k < n
      · have hki : (k : Int) < (n : Int) := by omega
        have hk0 : (0 : Int) ≤ (k : Int) := by omega
        have hkM : k < M.length := by rw [HN.out]; exact hkn
        obtain ⟨x, hx⟩ : ∃ x, M[k] = x := ⟨_, rfl⟩
        have hxs : x.size < 2147483648 := by rw [← hx]; exact HMS.out _ (List.getElem_mem _)
        obtain ⟨g, o, rfl, hg, hc⟩ := HR.out.cell (a := va) (k := k) (by simpa using hkM)
        have hc' : w3.cell? ⟨g, o + k, none⟩ = some (.string x) := by rw [hc]; simp [hx]
        have HC : Hid (∀ V, Below w3.heap.size w3 V → V.cell? ⟨g, o + k, none⟩ = some (.string x)) := Lib.hid fun V hV => (hV.cell (p := ⟨g, o + k, none⟩) hg).trans hc'
        obtain ⟨l, hl⟩ : ∃ l, DG.prf M k h = l := ⟨_, rfl⟩
        have hlen : l.length = h := by rw [← hl, DG.prf_len]
        have hls : ∀ s ∈ l, s.size < 2147483648 := by rw [← hl]; exact prf_small HMS.out k h
        have HPC := Lib.hid (rproof_k (w := wr) HN.out hl (HSRC.out.keep hb) (by rw [HN.out]; omega) HMS.out HH.out hkn)
        have HB := Lib.hid hb
        have HLEN := Lib.hid hlen
        have HLS := Lib.hid hls
        clear hx hl hlen hls hc hc' hb hkM
        go_wp2_with fail
        refine HPC.out.mono ?_
        rintro e w4 ⟨pa, pc, rfl, hsp, hpc, k4⟩
        have HB4 := Lib.hid (bnext HB.out k4)
        have HSP := Lib.hid hsp
        have hone := strs_one l
        clear hsp k4 HPC
        go_wp2_with (at_builtin; refine wpList_app _ rfl _ _ 26 rfl w4.heap.size 9 i0 (.string ⟨#[]⟩) 16 Try.underlying26 hif hz0 hz1 hz2 rfl _ _ _ rfl (own_lit w4 [] 9 w4.heap.size (Nat.le_refl _) (by simp)) _ (l.map Value.string) rfl (HSP.out.keep (balloc (Below.refl _ _) _)) hone ?c1 ?c2 ?c3 ?_)
        case c1 => have := HLEN.out; (try unfold maxLen); (try simp only [List.length_map, List.length_nil]); omega
        case c2 => have := HLEN.out; (try simp only [List.length_map, List.length_nil]); omega
        try case c3 => exact (balloc (Below.refl _ _) _).size
        intro v6 w6 hown6 hgrow6 _
        have hb6 : Below w4.heap.size w4 w6 := ((Below.refl _ w4).alloc (Nat.le_refl _) _).grown hgrow6 (by simp) (fun k e => by cases e; simp)
        replace hown6 : w6.ownsRow w4.heap.size 9 1 v6 h (l.map Value.string) := by have := HLEN.out; subst this; simpa using hown6
        obtain ⟨qa, qc, rfl⟩ := own_shape hown6
        have HB6 := Lib.hid hb6
        have HO6 := Lib.hid hown6
        clear hgrow6 hb6 hown6 hone
        go_upto_if 44 with (fail)
        go_cut [11] from 42 to 59 (fun s11 wx => s11 = .slice qa h qc ∧ (∃ l' : List ByteArray, wx.ownsRow w4.heap.size 9 1 (.slice qa h qc) h (l'.map Value.string) ∧ ∀ s ∈ l', s.size < 2147483648) ∧ Below w4.heap.size w4 wx)
        case first =>
          by_cases hh0 : 0 < h
          · have hhi : (0 : Int) < (h : Int) := by omega
            obtain ⟨gq, cq, he, hgb, hgl, hcell⟩ := own_at HO6.out hh0
            obtain ⟨rfl, rfl⟩ : qa = some (⟨gq, 0, none⟩ : Addr) ∧ qc = cq := by
              injection he with e1 e2 e3
              exact ⟨e1, e3⟩
            obtain ⟨m1, hm1⟩ : ∃ m : Nat, y2 % 65536 = (m : Int) := ⟨(y2 % 65536).toNat, by omega⟩
            have hand := and_65535 y2
            rw [hm1] at hand
            have hj0 : m1 % h < h := Nat.mod_lt _ hh0
            obtain ⟨j, hj⟩ : ∃ j, m1 % h = j := ⟨_, rfl⟩
            have hrem : (m1 : Int) % (h : Int) = (j : Int) := by rw [← hj]; exact (Int.natCast_emod _ _).symm
            rw [hj] at hj0
            have hji : (j : Int) < (h : Int) := by omega
            have hjp : (0 : Int) ≤ (j : Int) := by omega
            have hjt : ((j : Int)).toNat = j := by omega
            have hs2m := HS2.out
            obtain ⟨z, hz⟩ : ∃ z, s2.size = z := ⟨_, rfl⟩
            obtain ⟨mm, hmm⟩ : ∃ mm, min z 40 = mm := ⟨_, rfl⟩
            have hsl := fun V => slice_head s2 mm (by omega) V
            obtain ⟨X, hX⟩ : ∃ X, s2.extract 0 mm = X := ⟨_, rfl⟩
            have hXs : X.size ≤ 40 := by rw [← hX, ByteArray.size_extract]; omega
            rw [hX] at hsl
            have hmi1 : (if 40 < (z : Int) then 40 else (z : Int)) = (mm : Int) := by split <;> omega
            have hmi2 : min (z : Int) 40 = (mm : Int) := by omega
            have hmz : (mm : Int) ≤ (z : Int) := by omega
            have hqc := HO6.out.cellAt j (by omega)
            have hqf := HO6.out.frozenAt j
            obtain ⟨u, hu⟩ : ∃ u, (l.map Value.string)[j]? = some u := ⟨_, List.getElem?_eq_getElem (by rw [List.length_map, HLEN.out]; exact hj0)⟩
            rw [hu] at hqc
            have hb6s := HB6.out.size
            have hBq : ¬ B = gq := by have := HSZ.out; have := HB4.out.size; omega
            have HKS : Hid (∀ V, Below w6.heap.size w6 V → V.cell? ⟨B, 1, none⟩ = some (.int .i64 y2) ∧ V.cell? ⟨B, 3, none⟩ = some (.string s2)) := Lib.hid fun V hV => by
              obtain ⟨_, c1, _, c3⟩ := HBB.out V (bnext (bnext HB4.out HB6.out) hV)
              exact ⟨c1, c3⟩
            have HKT : Hid (∀ V, Below w6.heap.size w6 V → (V.setCell ⟨gq, j, none⟩ (.string X)).cell? ⟨B, 1, none⟩ = some (.int .i64 y2) ∧ (V.setCell ⟨gq, j, none⟩ (.string X)).cell? ⟨B, 3, none⟩ = some (.string s2)) := Lib.hid fun V hV => by
              obtain ⟨c1, c3⟩ := HKS.out V hV
              exact ⟨by rw [World.cell?_setCell_far _ _ _ _ (fun e => hBq e.symm)]; exact c1, by rw [World.cell?_setCell_far _ _ _ _ (fun e => hBq e.symm)]; exact c3⟩
            obtain ⟨b1, b3⟩ := HKS.out w6 (Below.refl _ _)
            have HX := Lib.hid hXs
            have HJ := Lib.hid hj0
            have hql : (0 : Int) < (h : Int) := hhi
            have hnh : ¬ (h : Int) = 0 := by omega
            have hrt : (m1 : Int).tmod (h : Int) = (j : Int) := by rw [Int.tmod_eq_emod_of_nonneg (by omega)]; exact hrem
            have hwj : IntKind.i64.wrap (j : Int) = (j : Int) := by rw [IntKind.wrap_i64]; omega
            have hnb : ((h : Int) == 0) = false := by simpa using hnh
            have hnn : ¬ h = 0 := by omega
            have hnn2 : (h == 0) = false := by simpa using hnn
            have HL : Hid (∀ V, Below w6.heap.size w6 V → (V.setCell ⟨gq, j, none⟩ (.string X)).ownsRow w4.heap.size 9 1 (.slice (some ⟨gq, 0, none⟩) h qc) h ((l.set j X).map Value.string)) := Lib.hid fun V hV => by
              have h1 := ((own_kept HO6.out hV).stored j (.string X)).1
              rwa [← List.map_set] at h1
            have HLM : Hid (∀ s ∈ l.set j X, s.size < 2147483648) := Lib.hid fun s hs => by
              rcases List.mem_or_eq_of_mem_set hs with hs | rfl
              · exact HLS.out s hs
              · have := HX.out; omega
            have hgw : w4.heap.size ≤ gq := hgb
            unfold maxLen at hs2m
            clear hm1 hj hmm hX hu hcell he hXs hBq hgl HO6
            go_wp2_with fail
            go_region_held3 (fun w' => w'.cell? ⟨B, 1, none⟩ = some (.int .i64 y2) ∧ w'.cell? ⟨B, 3, none⟩ = some (.string s2))
              (first | (refine HKS.out _ ?_; (repeat' (first | exact Below.refl _ _ | (with_reducible assumption) | (refine bnext ?_ (by with_reducible assumption)) | (refine balloc ?_ _) | (refine below_drewN ?_ _) | (refine Below.drew ?_))); done) | (refine HKT.out _ ?_; (repeat' (first | exact Below.refl _ _ | (with_reducible assumption) | (refine bnext ?_ (by with_reducible assumption)) | (refine balloc ?_ _) | (refine below_drewN ?_ _) | (refine Below.drew ?_))); done))
              (fail)
            all_goals
              go_wp2
              go_meet
              case rel => exact ⟨rfl, ⟨_, HL.out _ (Below.refl _ _), HLM.out⟩, Below.drew (HB6.out.setCell (p := ⟨gq, j, none⟩) hgw _)⟩
          · have hhi : ¬ (0 : Int) < (h : Int) := by omega
            go_wp2
            go_meet
            case rel => exact ⟨rfl, ⟨l, HO6.out, HLS.out⟩, HB6.out⟩
        case rest =>
          obtain ⟨rfl, ⟨l1, hol, hl1⟩, hbc⟩ := hcut
          have HOL := Lib.hid hol
          have HL1 := Lib.hid hl1
          have HBC := Lib.hid hbc
          obtain ⟨m2, hm2⟩ : ∃ m : Nat, z2 % 32 = (m : Int) := ⟨(z2 % 32).toNat, by omega⟩
          have hm2b : m2 ≤ 31 := by omega
          have hand2 := and_31 z2
          rw [hm2] at hand2
          obtain ⟨m3, hm3⟩ : ∃ m : Nat, z2 % 4 = (m : Int) := ⟨(z2 % 4).toNat, by omega⟩
          have hand3 := and_3 z2
          rw [hm3] at hand3
          have HA3 := Lib.hid hand3
          have HBD : Hid (∀ V, Below w4.heap.size w4 V → V.cell? ⟨B, 0, none⟩ = some (.int .i64 x2) ∧ V.cell? ⟨B, 2, none⟩ = some (.int .i64 z2)) := Lib.hid fun V hV => by
            obtain ⟨c0, _, c2, _⟩ := HBB.out V (bnext HB4.out hV)
            exact ⟨c0, c2⟩
          clear hm2 hm3 hand3 hol hl1 hbc HO6 HB6
          go_wp2
          go_loopw [11, 12] (fun v11 v12 wr => ∃ (i : Nat) (l2 : List ByteArray), v12 = .int .i64 (i : Int) ∧ i ≤ m2 ∧ wr.ownsRow w4.heap.size 9 1 v11 (h + i) (l2.map Value.string) ∧ (∀ s ∈ l2, s.size < 2147483648) ∧ Below w4.heap.size w4 wr) (fun _ v _ => m2 - (intOf v).toNat)
          case atStart => exact ⟨0, l1, rfl, Nat.zero_le _, HOL.out, HL1.out, HBC.out⟩
          case round =>
            clear HOL HL1 HBC
            obtain ⟨i, l2, rfl, hi, hrow, hl2, hbq⟩ := hrel
            obtain ⟨N, hN⟩ : ∃ N, h + i = N := ⟨_, rfl⟩
            rw [hN] at hrow
            obtain ⟨ya, yc, rfl⟩ := own_shape hrow
            have HRQ := Lib.hid hrow
            have HBQ := Lib.hid hbq
            have HL2 := Lib.hid hl2
            have hqs := hbq.size
            obtain ⟨_, c2⟩ := HBD.out _ hbq
            clear hrow hbq hl2
            by_cases him : i < m2
            · have himi : (i : Int) < (m2 : Int) := by omega
              go_wp2_with (at_builtin; refine wpList_app _ rfl _ _ 26 rfl w4.heap.size 9 i0 (.string ⟨#[]⟩) 16 Try.underlying26 hif hz0 hz1 hz2 rfl _ _ _ rfl (HRQ.out.alloc _) _ [.string ⟨#[]⟩] rfl (Src.one (World.cell?_alloc_at _ _ _ _ rfl)) (by simp [Value.oneCell']) ?d1 ?d2 ?d3 ?_)
              case d1 => (try unfold maxLen); (try simp only [List.length_cons, List.length_nil]); omega
              case d2 => (try simp only [List.length_cons, List.length_nil]); omega
              case d3 => simp; omega
              intro v7 w7 hown7 hgrow7 _
              have HB7 : Hid (Below w4.heap.size w4 w7) := Lib.hid ((HBQ.out.alloc hqs _).grown hgrow7 (by simp; omega) (fun k e => (HRQ.out.lt k e).1))
              have HO7 := Lib.hid hown7
              obtain ⟨g7, c7, rfl⟩ := ownsRow_succ hown7
              clear hown7 hgrow7
              go_wp2
              go_roundw
              case rel =>
                refine ⟨i + 1, l2 ++ [⟨#[]⟩], by go_num, him, ?_, ?_, HB7.out⟩
                · rw [show h + (i + 1) = N + 1 by omega, List.map_append]
                  exact HO7.out
                · intro t ht
                  rcases List.mem_append.1 ht with ht | ht
                  · exact HL2.out t ht
                  · obtain rfl := List.mem_singleton.1 ht
                    decide
              case measure => simp [intOf]; omega
            · have himi : ¬ (i : Int) < (m2 : Int) := by omega
              have hand3 := HA3.out
              go_upto_region 16 with (fail)
              go_cut [13] from 70 to 77 (fun s13 wx => wx = wr ∧ ∃ mn : Nat, s13 = .slice pa mn pc ∧ mn ≤ h)
              case first =>
                go_wp2
                all_goals
                  go_meet
                  case rel => exact ⟨rfl, _, rfl, by omega⟩
              case rest =>
                obtain ⟨rfl, mn, rfl, hmn4⟩ := hcut
                have HPa : Hid (∀ V, Below wc.heap.size wc V → PL V (.slice pa h pc)) := Lib.hid fun V hV => ⟨l, pa, pc, by rw [HLEN.out], by rw [HLEN.out]; exact (HSP.out.row.keep HBQ.out).keep hV, HLS.out⟩
                have HPb : Hid (∀ V, Below wc.heap.size wc V → PL V (.slice ya N yc)) := Lib.hid fun V hV => (own_pl HRQ.out HL2.out).keep hV
                have HPc : Hid (∀ V, Below wc.heap.size wc V → PL V (.slice pa mn pc)) := Lib.hid fun V hV => by
                  have h1 := row_first ((HSP.out.row.keep HBQ.out).keep hV) (m := mn) (by rw [List.length_map, HLEN.out]; exact hmn4)
                  have h2 : (l.take mn).length = mn := by rw [List.length_take, HLEN.out]; omega
                  refine ⟨l.take mn, pa, pc, by rw [h2], ?_, fun t ht => HLS.out t (List.mem_of_mem_take ht)⟩
                  rw [h2, List.map_take]
                  exact h1
                have HBR := Lib.hid (bnext HB4.out HBQ.out)
                obtain ⟨P, hP, hP', hP0, hP1⟩ := pow_int h20
                have hwP : IntKind.i64.wrap (P : Int) = (P : Int) := by rw [IntKind.wrap_i64]; omega
                have hwQ : IntKind.i64.wrap ((k : Int) + (P : Int)) = (k : Int) + (P : Int) := by rw [IntKind.wrap_i64]; omega
                have hxo := xor_one k (by omega)
                obtain ⟨q, hq⟩ : ∃ q, k ^^^ 1 = q := ⟨_, rfl⟩
                have hqb : q ≤ k + 1 := by have := xor_one_nat k; rw [hq] at this; split at this <;> omega
                rw [hq] at hxo
                have HW1 := Lib.hid hP
                have HW2 := Lib.hid hwP
                have HW3 := Lib.hid hwQ
                have HW4 := Lib.hid hxo
                clear HRQ HBQ HL2 HSP hq hP hP' hwP hwQ hxo hand2 hand3 HA3 c2
                go_wp2_with fail
                have hbx := heap_alloc_new wc (.cells #[.slice pa h pc, .slice ya N yc, .slice pa mn pc] 26)
                have hac := Below.alloc (Below.refl wc.heap.size wc) (Nat.le_refl _) (.cells #[.slice pa h pc, .slice ya N yc, .slice pa mn pc] 26)
                have hsz7 : wc.heap.size < (wc.alloc (.cells #[.slice pa h pc, .slice ya N yc, .slice pa mn pc] 26)).heap.size := by simp
                obtain ⟨B7, hB7⟩ : ∃ B7, wc.heap.size = B7 := ⟨_, rfl⟩
                rw [hB7] at hbx hsz7 ⊢
                generalize wc.alloc (.cells #[.slice pa h pc, .slice ya N yc, .slice pa mn pc] 26) = W7 at hbx hac hsz7 ⊢
                have HL7 : Hid (∀ V, Below W7.heap.size W7 V → ∀ j : Nat, j < 3 → ∃ v, V.cell? ⟨B7, j, none⟩ = some v ∧ PL V v) := Lib.hid fun V hV j hj => by
                  have hc := (hV.block B7 hsz7).trans hbx
                  match j, hj with
                  | 0, _ => exact ⟨_, by simp [World.cell?, hc], HPa.out V (bnext hac hV)⟩
                  | 1, _ => exact ⟨_, by simp [World.cell?, hc], HPb.out V (bnext hac hV)⟩
                  | 2, _ => exact ⟨_, by simp [World.cell?, hc], HPc.out V (bnext hac hV)⟩
                have HB7 := Lib.hid (bnext HBR.out hac)
                have HC7 : Hid (∀ V, Below W7.heap.size W7 V → V.cell? ⟨g, o + k, none⟩ = some (.string x) ∧ V.cell? ⟨B, 0, none⟩ = some (.int .i64 x2)) := Lib.hid fun V hV => ⟨HC.out V (bnext HB7.out hV), (HBB.out V (bnext HB7.out hV)).1⟩
                clear HPa HPb HPc hbx hac hsz7 HBR HC HBD
                go_loopw [83] (fun v83 wl => ∃ j : Nat, v83 = .int .i64 (j : Int) ∧ j ≤ 3 ∧ Below W7.heap.size W7 wl) (fun v _ => 3 - (intOf v).toNat)
                case atStart => exact ⟨0, rfl, by omega, Below.refl _ _⟩
                case round =>
                  obtain ⟨j, rfl, hj, hbl⟩ := hrel
                  by_cases hj3 : j < 3
                  · have hji : (j : Int) < 3 := by omega
                    have hj0 : (0 : Int) ≤ (j : Int) := by omega
                    obtain ⟨xv, hxc, hxp⟩ := HL7.out _ hbl j hj3
                    obtain ⟨xl, xa, xc, rfl, hxr, hxs2⟩ := hxp
                    obtain ⟨xn, hxn⟩ : ∃ xn, xl.length = xn := ⟨_, rfl⟩
                    rw [hxn] at hxc hxr
                    have HXP := Lib.hid hxr
                    have HXN := Lib.hid hxn
                    have HXS := Lib.hid hxs2
                    have HBL := Lib.hid hbl
                    have HKS : Hid (∀ V, Below wr.heap.size wr V → V.cell? ⟨B, 0, none⟩ = some (.int .i64 x2)) := Lib.hid fun V hV => (HC7.out V (bnext HBL.out hV)).2
                    have h5 := HW1.out
                    have h6 := HW2.out
                    have h7 := HW3.out
                    have h8 := HW4.out
                    have cb := HKS.out wr (Below.refl _ _)
                    clear hxr hxs2 hbl hxn
                    go_wp2_with fail
                    go_region_held3 (fun w' => w'.cell? ⟨B, 0, none⟩ = some (.int .i64 x2))
                      (first | (refine HKS.out _ ?_; (repeat' (first | exact Below.refl _ _ | (with_reducible assumption) | (refine bnext ?_ (by with_reducible assumption)) | (refine balloc ?_ _) | (refine below_drewN ?_ _) | (refine Below.drew ?_))); done))
                      (fail)
                    clear h5 h6 h7 h8 cb hxc
                    go_wp2_with fail
                    have hbx8 : (wr.alloc (.cells #[.int .i64 (k : Int), .int .i64 x2, .int .i64 ((k : Int) + (P : Int)), .int .i64 (q : Int)] 3)).drew.heap[wr.heap.size]? = _ := heap_alloc_new wr _
                    have hac8 : Below wr.heap.size wr (wr.alloc (.cells #[.int .i64 (k : Int), .int .i64 x2, .int .i64 ((k : Int) + (P : Int)), .int .i64 (q : Int)] 3)).drew := Below.drew (balloc (Below.refl _ _) _)
                    have hsz8 : wr.heap.size < (wr.alloc (.cells #[.int .i64 (k : Int), .int .i64 x2, .int .i64 ((k : Int) + (P : Int)), .int .i64 (q : Int)] 3)).drew.heap.size := by simp
                    obtain ⟨B8, hB8⟩ : ∃ B8, wr.heap.size = B8 := ⟨_, rfl⟩
                    have HB8 := Lib.hid (bnext HBL.out hac8)
                    rw [hB8] at hbx8 hsz8 ⊢
                    generalize (wr.alloc (.cells #[.int .i64 (k : Int), .int .i64 x2, .int .i64 ((k : Int) + (P : Int)), .int .i64 (q : Int)] 3)).drew = W8 at hbx8 hac8 hsz8 HB8 ⊢
                    have HL8 : Hid (∀ V, Below W8.heap.size W8 V → ∀ j : Nat, j < 4 → ∃ i : Int, V.cell? ⟨B8, j, none⟩ = some (.int .i64 i) ∧ -9223372036854775808 ≤ i ∧ i ≤ 9223372036854775807) := Lib.hid fun V hV j hj => by
                      have hc := (hV.block B8 hsz8).trans hbx8
                      have hx2 := HX2.out
                      match j, hj with
                      | 0, _ => exact ⟨(k : Int), by simp [World.cell?, hc], by omega, by omega⟩
                      | 1, _ => exact ⟨x2, by simp [World.cell?, hc], by omega, by omega⟩
                      | 2, _ => exact ⟨(k : Int) + (P : Int), by simp [World.cell?, hc], by omega, by omega⟩
                      | 3, _ => exact ⟨(q : Int), by simp [World.cell?, hc], by omega, by omega⟩
                    have HX8 := Lib.hid (HXP.out.keep hac8)
                    clear hbx8 hac8 hsz8 HKS hB8
                    go_loopw [99] (fun v99 wl => ∃ j4 : Nat, v99 = .int .i64 (j4 : Int) ∧ j4 ≤ 4 ∧ Below W8.heap.size W8 wl) (fun v _ => 4 - (intOf v).toNat)
                    case atStart => exact ⟨0, rfl, by omega, Below.refl _ _⟩
                    case round =>
                      obtain ⟨j4, rfl, hj4, hbl4⟩ := hrel
                      by_cases hj44 : j4 < 4
                      · have hji4 : (j4 : Int) < 4 := by omega
                        have hj04 : (0 : Int) ≤ (j4 : Int) := by omega
                        obtain ⟨av, hac, hab⟩ := HL8.out _ hbl4 j4 hj44
                        have HAB := Lib.hid hab
                        have HBL4 := Lib.hid hbl4
                        have cx := (HC7.out _ (bnext HB8.out hbl4)).1
                        clear hbl4 hab
                        go_wp2_with fail
                        have hbx9 := heap_alloc_new wr (.cells #[.string x, .string s] 9)
                        have hac9 : Below wr.heap.size wr (wr.alloc (.cells #[.string x, .string s] 9)) := balloc (Below.refl _ _) _
                        have hsz9 : wr.heap.size < (wr.alloc (.cells #[.string x, .string s] 9)).heap.size := by simp
                        obtain ⟨B9, hB9⟩ : ∃ B9, wr.heap.size = B9 := ⟨_, rfl⟩
                        have HB9 := Lib.hid (bnext HBL4.out hac9)
                        rw [hB9] at hbx9 hsz9 ⊢
                        generalize wr.alloc (.cells #[.string x, .string s] 9) = W9 at hbx9 hac9 hsz9 HB9 ⊢
                        have HL9 : Hid (∀ V, Below W9.heap.size W9 V → ∀ j : Nat, j < 2 → ∃ y : ByteArray, V.cell? ⟨B9, j, none⟩ = some (.string y) ∧ y.size < 2147483648) := Lib.hid fun V hV j hj => by
                          have hc := (hV.block B9 hsz9).trans hbx9
                          match j, hj with
                          | 0, _ => exact ⟨x, by simp [World.cell?, hc], by omega⟩
                          | 1, _ => exact ⟨s, by simp [World.cell?, hc], by omega⟩
                        have HX9 := Lib.hid (HX8.out.keep HB9.out)
                        clear hbx9 hac9 hsz9 hB9 hac cx
                        go_loopw [110] (fun v110 wl => ∃ j5 : Nat, v110 = .int .i64 (j5 : Int) ∧ j5 ≤ 2 ∧ Below W9.heap.size W9 wl) (fun v _ => 2 - (intOf v).toNat)
                        case atStart => exact ⟨0, rfl, by omega, Below.refl _ _⟩
                        case round =>
                          obtain ⟨j5, rfl, hj5, hbl5⟩ := hrel
                          by_cases hj55 : j5 < 2
                          · have hji5 : (j5 : Int) < 2 := by omega
                            have hj05 : (0 : Int) ≤ (j5 : Int) := by omega
                            obtain ⟨y, hyc, hys⟩ := HL9.out _ hbl5 j5 hj55
                            have hpl : PL wr (.slice xa xn xc) := ⟨xl, xa, xc, by rw [HXN.out], by rw [HXN.out]; exact HX9.out.keep hbl5, HXS.out⟩
                            obtain ⟨b1, q1⟩ := both_any (root := R) hpl HAB.out hys
                            obtain ⟨b2, q2⟩ := both_any (root := s) hpl HAB.out hys
                            have Q1 := Lib.hid q1
                            have Q2 := Lib.hid q2
                            have HBL5 := Lib.hid hbl5
                            have n1 : (b1 != b1) = false := by simp
                            have n2 : (b2 != b2) = false := by simp
                            clear q1 q2 hpl hys hbl5
                            go_wp2_with fail
                            refine (Q1.out _ (Below.refl _ _)).1.mono ?_
                            rintro e w10 ⟨rfl, k10⟩
                            go_wp2_with fail
                            refine (Q1.out _ k10).2.mono ?_
                            rintro e w11 ⟨rfl, k11⟩
                            replace k11 := bnext k10 k11
                            clear k10
                            go_wp2_with fail
                            refine (Q2.out _ k11).1.mono ?_
                            rintro e w12 ⟨rfl, k12⟩
                            replace k12 := bnext k11 k12
                            clear k11
                            go_wp2_with fail
                            refine (Q2.out _ k12).2.mono ?_
                            rintro e w13 ⟨rfl, k13⟩
                            replace k13 := bnext HBL5.out (bnext k12 k13)
                            clear k12
                            go_wp2
                            go_roundw
                            case rel => exact ⟨j5 + 1, by go_num, hj55, k13⟩
                            case measure => simp [intOf]; omega
                          · have hji5 : ¬ (j5 : Int) < 2 := by omega
                            have HBE5 := Lib.hid (bnext HB9.out hbl5)
                            clear hbl5
                            go_wp2
                            go_roundw
                            case rel => exact ⟨j4 + 1, by go_num, hj44, HBE5.out⟩
                            case measure => simp [intOf]; omega
                      · have hji4 : ¬ (j4 : Int) < 4 := by omega
                        have HBE4 := Lib.hid (bnext HB8.out hbl4)
                        clear hbl4
                        go_wp2
                        go_roundw
                        case rel => exact ⟨j + 1, by go_num, hj3, HBE4.out⟩
                        case measure => simp [intOf]; omega
                  · have hji : ¬ (j : Int) < 3 := by omega
                    have HBE2 := Lib.hid (bnext HB7.out hbl)
                    clear hbl
                    go_wp2
                    go_roundw
                    case rel => exact ⟨k + 1, by go_num, hkn, HBE2.out⟩
                    case measure => simp [intOf]; omega
      · have hki : ¬ (k : Int) < (n : Int) := by omega
        go_wp2
        go_ret
        exact ⟨rfl, bnext acc hb⟩

set_option maxRecDepth 100000 in
theorem lifted (os : Os) (started : os.Started) (H : Type) (enc : TypeId × Value → H) :
    ReturnsInHanded {} Try.checked os 5 .any (Rows.digestVerifiesSpec.pre6 enc Try.prog Try.f5 Rows.digestVerifiesRow.domain false) (Rows.digestVerifiesSpec.post enc Try.prog Try.f5 false true false false) := by
  refine returnsInHanded_of_change (C := Try.checked) own started (by kernel_rfl) Try.func5
    (ChangeSpec.witness6 (enc := enc) (C := Try.checked) false ⟨#[], #[.slice none 0 0, .string ByteArray.empty, .agg #[.int .i64 0, .int .i64 0, .int .i64 0, .string ByteArray.empty]], []⟩ 8 (by kernel_rfl) (by kernel_rfl) (by kernel_rfl) (by kernel_rfl)) ?_
  intro W base args ds gs before hval0 hW hcnd _
  have hval : ∀ (j : Nat) t v, Try.f5.params[j]? = some t → args[j]? = some v → Value.okWide Try.prog W .any base t v := hval0
  have hW' := hW
  obtain ⟨p, q, hA0, hV, rfl, hfz, hnd⟩ := hW
  have hA : DataW.TrodAll enc Try.prog W 0 (fun _ => true) true Try.f5.params.toList args.toList ds p := hA0
  rw [Try.params5] at hA hval
  obtain ⟨v0, vs0, d0, ds0, p0, q0, hargs, rfl, rfl, h0, r0⟩ := trodAll_cons hA
  obtain ⟨v1, vs1, d1, ds1, p1, q1, rfl, rfl, rfl, h1, r1⟩ := trodAll_cons r0
  obtain ⟨v2, vs2, d2, ds2, p2, q2, rfl, rfl, rfl, h2, r2⟩ := trodAll_cons r1
  obtain ⟨rfl, rfl, rfl⟩ := trodAll_nil r2
  obtain rfl : args = #[v0, v1, v2] := by cases args; simp_all
  obtain ⟨rfl, rfl⟩ := trodVars_none hV
  have k0 := h0
  have lt0 : ∀ x ∈ p0, x.block < W.heap.size := by obtain ⟨m, hm⟩ := k0; exact DataW.trod_lt m _ _ _ hm
  have k1 := h1
  have lt1 : ∀ x ∈ p1, x.block < W.heap.size := by obtain ⟨m, hm⟩ := k1; exact DataW.trod_lt m _ _ _ hm
  have k2 := h2
  have lt2 : ∀ x ∈ p2, x.block < W.heap.size := by obtain ⟨m, hm⟩ := k2; exact DataW.trod_lt m _ _ _ hm
  obtain ⟨a0, H0, L0, E0⟩ := open_ts (hval 0 26 v0 rfl rfl) h0
  obtain ⟨a1, rfl, rfl, rfl, wa1⟩ := open_string Try.underlying9 (hval 1 9 v1 rfl rfl) h1
  obtain ⟨x2, y2, z2, s2, rfl, wx2, wy2, wz2, ws2⟩ := open_chg (hval 2 33 v2 rfl rfl) h2
  clear hA0 hval0
  refine (walk v0 a0 a1 x2 y2 z2 s2 wa1 wx2 wy2 wz2 ws2 W H0 L0 E0).mono fun e W' ⟨he, bel⟩ => ?_
  subst he
  exact ⟨_, rfl, _, _, _, [], _, [], hW', trodAll_mk1 (shut_bool Try.underlying4 _), (trodAll_cons_mk (Below.trod laidOut (by kernel_rfl) (of_decide_eq_true (by kernel_rfl)) k0 bel lt0) (trodAll_cons_mk (Below.trod laidOut (by kernel_rfl) (of_decide_eq_true (by kernel_rfl)) k1 bel lt1) (trodAll_cons_mk (Below.trod laidOut (by kernel_rfl) (of_decide_eq_true (by kernel_rfl)) k2 bel lt2) trodAll_mk0))), rfl, bel.frame _, fun h => by cases h⟩

theorem over : Rows.digestVerifiesRow.holds Try.pinned (OpenSpec.ofChange Rows.digestVerifiesSpec) :=
  OpenClaim.holds_of_wide 5 Try.f5 rfl rfl rfl rfl rfl rfl rfl ⟨rfl, rfl, rfl, rfl, rfl⟩ rfl rfl rfl rfl rfl (by kernel_rfl) Try.func5 (by kernel_rfl)
    (of_decide_eq_true (by kernel_rfl)) (by unfold Func.isWrapper; first | (rw [if_pos (by decide +kernel)]; kernel_rfl) | (rw [if_neg (by decide +kernel)]; exact ⟨rfl, rfl⟩))
    (fun os started H enc _ => lifted os started H enc)

end Go.Proofs.Ytfikbcgadpbblaa.digestVerifies
namespace Go.Proofs.Ytfikbcgadpbblaa
theorem digestVerifies_proved : Rows.DigestVerifiesSaid := digestVerifies.over
#print axioms digestVerifies_proved
end Go.Proofs.Ytfikbcgadpbblaa
