/- A class that is moved: plain, and in a row of the call's own. No conditions. -/
import Derived.Test.YtpmmincophaaiaaAttFacts
namespace Go.Proofs.Ytpmmincophaaiaa.AT
set_option linter.unusedVariables false
def shA (c x y : Int) (a : An) : An := if a.1 = c then (a.1, a.2.1 + x, a.2.2 + y) else a
def shD (c x y : Int) (d : Dr) : Dr := ⟨d.anchors.map (shA c x y), shA c x y d.hang, d.adv⟩
theorem shA_cls (c x y : Int) (a : An) : (shA c x y a).1 = a.1 := by
  unfold shA
  split <;> rfl
theorem own_sh (c x y h : Int) (l : List An) : own (l.map (shA c x y)) h = (own l h).map (shA c x y) := by
  unfold own
  rw [List.find?_map]
  congr 2
  funext a
  show ((shA c x y a).1 == h) = (a.1 == h)
  rw [shA_cls]
theorem own_cls {l : List An} {h : Int} {a : An} (ho : own l h = some a) : a.1 = h := by
  have := List.find?_some ho
  simpa using this
theorem car_sh (c x y h : Int) (l : List Dr) : ∀ k, carrier (l.map (shD c x y)) h k = (carrier l h k).map (fun z => (z.1, shA c x y z.2))
  | 0 => rfl
  | k + 1 => by
    rw [carrier, carrier, List.getElem?_map]
    cases hd : l[k]? with
    | none =>
      simp only [Option.map_none, Option.bind_none]
      exact car_sh c x y h l k
    | some d =>
      simp only [Option.map_some, Option.bind_some]
      have ho : own (shD c x y d).anchors h = (own d.anchors h).map (shA c x y) := own_sh c x y h d.anchors
      rw [ho]
      cases hb : own d.anchors h with
      | none =>
        simp only [Option.map_none]
        exact car_sh c x y h l k
      | some a => rfl
theorem car_cls {l : List Dr} {h : Int} {j : Nat} {a : An} : ∀ {k : Nat}, carrier l h k = some (j, a) → a.1 = h
  | 0, hc => by simp [carrier] at hc
  | k + 1, hc => by
    rw [carrier] at hc
    split at hc
    · rename_i b hb
      simp at hc
      obtain ⟨rfl, rfl⟩ := hc
      obtain ⟨d, hd, ho⟩ := Option.bind_eq_some_iff.1 hb
      exact own_cls ho
    · exact car_cls hc
theorem step_sh {c x y : Int} (hc : c ≠ 0) (l : List Dr) (out : List (Int × Int)) (pen : Int) (k : Nat) (d : Dr) : step (l.map (shD c x y)) out pen k (shD c x y d) = step l out pen k d := by
  have hcl : (shD c x y d).hang.1 = d.hang.1 := shA_cls c x y d.hang
  unfold step
  rw [hcl, car_sh]
  by_cases h0 : d.hang.1 = 0
  · rw [if_pos h0, if_pos h0]
  · rw [if_neg h0, if_neg h0]
    cases hcar : carrier l d.hang.1 k with
    | none => rfl
    | some z =>
      obtain ⟨j, a⟩ := z
      have ha := car_cls hcar
      simp only [Option.map_some]
      show ((out.getD j (0, 0)).1 + (shA c x y a).2.1 - (shA c x y d.hang).2.1, (out.getD j (0, 0)).2 + (shA c x y a).2.2 - (shA c x y d.hang).2.2) = _
      by_cases hcc : d.hang.1 = c
      · have e1 : shA c x y a = (a.1, a.2.1 + x, a.2.2 + y) := if_pos (ha.trans hcc)
        have e2 : shA c x y d.hang = (d.hang.1, d.hang.2.1 + x, d.hang.2.2 + y) := if_pos hcc
        rw [e1, e2]
        refine Prod.ext ?_ ?_ <;> simp only <;> omega
      · have e1 : shA c x y a = a := if_neg (fun e => hcc (ha.symm.trans e))
        have e2 : shA c x y d.hang = d.hang := if_neg hcc
        rw [e1, e2]
theorem go_sh {c x y : Int} (hc : c ≠ 0) (l : List Dr) : ∀ n, n ≤ l.length → go (l.map (shD c x y)) n = go l n
  | 0, _ => rfl
  | n + 1, hn => by
    have hd : l[n]? = some l[n] := List.getElem?_eq_getElem (by omega)
    generalize l[n] = d at hd
    rw [go_succ hd, go_succ (l := l.map (shD c x y)) (d := shD c x y d) (by rw [List.getElem?_map, hd]; rfl), go_sh hc l n (by omega), step_sh hc]
    have hcl : (shD c x y d).hang.1 = d.hang.1 := shA_cls c x y d.hang
    rw [hcl]
    rfl
theorem places_sh {c x y : Int} (hc : c ≠ 0) {l : List Dr} (h0 : l.length ≤ 200) (h1 : l.all right = true) (h2 : (l.map (shD c x y)).all right = true) : places (l.map (shD c x y)) = places l := by
  rw [places_good h0 h1, places_good (by rw [List.length_map]; exact h0) h2, List.length_map, go_sh hc l l.length (Nat.le_refl _)]
theorem shA_ok {c x y : Int} (hx : 0 ≤ x ∧ x < 1000) (hy : 0 ≤ y ∧ y < 1000) {z : An} (h : z = (0, 0, 0) ∨ AnIn z) : anOk (shA c x y z) = true := by
  unfold anOk
  rw [Bool.and_eq_true, small_iff, small_iff]
  unfold shA
  have hz : (-20 ≤ z.2.1 ∧ z.2.1 ≤ 40) ∧ (-20 ≤ z.2.2 ∧ z.2.2 ≤ 40) := by
    rcases h with rfl | ⟨-, h2, h3⟩
    · simp
    · exact ⟨h2, h3⟩
  split <;> (try simp only) <;> omega
theorem shD_right {c x y : Int} (hx : 0 ≤ x ∧ x < 1000) (hy : 0 ≤ y ∧ y < 1000) (L : List Int) : right (shD c x y (mkDr L)) = true := by
  obtain ⟨h1, h2, h3, h4⟩ := mkDr_in L
  have hh := shA_ok (c := c) hx hy h3
  unfold anOk at hh
  have ha : small (mkDr L).adv = true := (small_iff _).2 (by omega)
  unfold right
  rw [Bool.and_eq_true, List.all_eq_true]
  refine ⟨fun z hz => ?_, ?_⟩
  · obtain ⟨w, hw, rfl⟩ := List.mem_map.1 (show z ∈ (mkDr L).anchors.map (shA c x y) from hz)
    exact shA_ok hx hy (.inr (h2 w hw))
  · show (small (shA c x y (mkDr L).hang).2.1 && small (shA c x y (mkDr L).hang).2.2 && small (mkDr L).adv) = true
    rw [hh, ha]
    rfl
theorem made_sh_right {c x y : Int} (hx : 0 ≤ x ∧ x < 1000) (hy : 0 ≤ y ∧ y < 1000) (LL : List (List Int)) : ((made LL).map (shD c x y)).all right = true := by
  rw [List.all_eq_true]
  intro d hd
  obtain ⟨e, he, rfl⟩ := List.mem_map.1 hd
  obtain ⟨L, rfl⟩ := made_mem he
  exact shD_right hx hy L
end Go.Proofs.Ytpmmincophaaiaa.AT
namespace Go.Proofs.Ytpmmincophaaiaa
set_option maxRecDepth 100000
set_option linter.unusedVariables false
open Go.RowKit Go.Deep
theorem drc_set : ∀ (X : List (AT.Dr × Value)) (k : Nat) (d : AT.Dr) (va : Value) (hx hy : Int), X[k]? = some (d, va) → ((drc X).set (k * 6 + 3) (.int .i64 hx)).set (k * 6 + 4) (.int .i64 hy) = drc (X.set k (⟨d.anchors, (d.hang.1, hx, hy), d.adv⟩, va))
  | [], k, d, va, hx, hy, h => by simp at h
  | e :: X, 0, d, va, hx, hy, h => by
    obtain rfl : e = (d, va) := by simpa using h
    rfl
  | e :: X, k + 1, d, va, hx, hy, h => by
    have ih := drc_set X k d va hx hy (by simpa using h)
    rw [List.set_cons_succ]
    show ((drv e ++ drc X).set ((k + 1) * 6 + 3) (.int .i64 hx)).set ((k + 1) * 6 + 4) (.int .i64 hy) = drv e ++ drc (X.set k (⟨d.anchors, (d.hang.1, hx, hy), d.adv⟩, va))
    rw [← ih, show (k + 1) * 6 + 3 = k * 6 + 3 + 6 by omega, show (k + 1) * 6 + 4 = k * 6 + 4 + 6 by omega]
    rfl
theorem anc_set : ∀ (l : List AT.An) (i : Nat) (z : AT.An) (ax ay : Int), l[i]? = some z → ((anc l).set (i * 3 + 1) (.int .i64 ax)).set (i * 3 + 2) (.int .i64 ay) = anc (l.set i (z.1, ax, ay))
  | [], i, z, ax, ay, h => by simp at h
  | e :: l, 0, z, ax, ay, h => by
    obtain rfl : e = z := by simpa using h
    rfl
  | e :: l, i + 1, z, ax, ay, h => by
    have ih := anc_set l i z ax ay (by simpa using h)
    rw [List.set_cons_succ]
    show (([Value.int .i64 e.1, .int .i64 e.2.1, .int .i64 e.2.2] ++ anc l).set ((i + 1) * 3 + 1) (.int .i64 ax)).set ((i + 1) * 3 + 2) (.int .i64 ay) = [Value.int .i64 e.1, .int .i64 e.2.1, .int .i64 e.2.2] ++ anc (l.set i (z.1, ax, ay))
    rw [← ih, show (i + 1) * 3 + 1 = i * 3 + 1 + 3 by omega, show (i + 1) * 3 + 2 = i * 3 + 2 + 3 by omega]
    rfl
theorem set_pair {X : List (AT.Dr × Value)} {k : Nat} {d d' : AT.Dr} {va : Value} (hk : X[k]? = some (d, va)) (h : X.Pairwise (fun x y => ∀ q, x.2.ownBlock = some q → y.2.ownBlock ≠ some q)) : (X.set k (d', va)).Pairwise (fun x y => ∀ q, x.2.ownBlock = some q → y.2.ownBlock ≠ some q) := by
  have hm : (X.set k (d', va)).map Prod.snd = X.map Prod.snd := by
    apply List.ext_getElem?
    intro j
    rw [List.getElem?_map, List.getElem?_map, List.getElem?_set]
    split
    · rename_i e
      subst e
      have hkl := (List.getElem?_eq_some_iff.1 hk).1
      first | (rw [if_pos hkl, hk]; rfl) | (rw [hk]; rfl)
    · rfl
  have h1 : (X.map Prod.snd).Pairwise (fun u v : Value => ∀ q, u.ownBlock = some q → v.ownBlock ≠ some q) := List.pairwise_map.2 h
  rw [← hm] at h1
  exact List.pairwise_map.1 h1
theorem OwnD.setHang {W : World} {B g cap : Nat} {X : List (AT.Dr × Value)} {n k : Nat} {d : AT.Dr} {va : Value} (hn : X.length = n) (h : OwnD W B (.slice (some ⟨g, 0, none⟩) n cap) X) (hk : X[k]? = some (d, va)) (hx hy : Int) :
    OwnD ((W.setCell ⟨g, k * 6 + 3, none⟩ (.int .i64 hx)).setCell ⟨g, k * 6 + 4, none⟩ (.int .i64 hy)) B (.slice (some ⟨g, 0, none⟩) n cap) (X.set k (⟨d.anchors, (d.hang.1, hx, hy), d.adv⟩, va)) ∧ W.grownBy ((W.setCell ⟨g, k * 6 + 3, none⟩ (.int .i64 hx)).setCell ⟨g, k * 6 + 4, none⟩ (.int .i64 hy)) (some g) := by
  obtain ⟨h1, h2, h3⟩ := h
  rw [hn] at h1
  obtain ⟨s1, g1⟩ := h1.stored (k * 6 + 3) (.int .i64 hx)
  obtain ⟨s2, g2⟩ := s1.stored (k * 6 + 4) (.int .i64 hy)
  have gg := World.grownBy.trans g1 g2
  rw [drc_set X k d va hx hy hk] at s2
  refine ⟨⟨by rw [List.length_set, hn]; exact s2, fun x hx' => ?_, set_pair hk h3⟩, gg⟩
  obtain ⟨j, hj⟩ := List.mem_iff_getElem?.1 hx'
  have hold : ∃ e, e ∈ X ∧ x.2 = e.2 ∧ x.1.anchors = e.1.anchors := by
    rw [List.getElem?_set] at hj
    split at hj
    · split at hj
      · obtain rfl := Option.some.inj hj
        exact ⟨(d, va), List.mem_of_getElem? hk, rfl, rfl⟩
      · simp at hj
    · exact ⟨x, List.mem_of_getElem? hj, rfl, rfl⟩
  obtain ⟨e, he, e1, e2⟩ := hold
  obtain ⟨a1, a2⟩ := h2 e he
  rw [e1, e2]
  exact ⟨own_of_grown a1 gg (fun q hq e3 => a2 q hq (by rw [← e3]; rfl)), a2⟩
theorem OwnD.setAn {W : World} {B : Nat} {v : Value} {X : List (AT.Dr × Value)} {k q m c : Nat} {d : AT.Dr} (h : OwnD W B v X) (hk : X[k]? = some (d, .slice (some ⟨q, 0, none⟩) m c)) (hm : d.anchors.length = m) {i : Nat} {z : AT.An} (hz : d.anchors[i]? = some z) (ax ay : Int) :
    OwnD ((W.setCell ⟨q, i * 3 + 1, none⟩ (.int .i64 ax)).setCell ⟨q, i * 3 + 2, none⟩ (.int .i64 ay)) B v (X.set k (⟨d.anchors.set i (z.1, ax, ay), d.hang, d.adv⟩, .slice (some ⟨q, 0, none⟩) m c)) ∧ W.grownBy ((W.setCell ⟨q, i * 3 + 1, none⟩ (.int .i64 ax)).setCell ⟨q, i * 3 + 2, none⟩ (.int .i64 ay)) (some q) := by
  obtain ⟨h1, h2, h3⟩ := h
  obtain ⟨a1, a2⟩ := h2 _ (List.mem_of_getElem? hk)
  simp only at a1 a2
  rw [hm] at a1
  obtain ⟨s1, g1⟩ := a1.stored (i * 3 + 1) (.int .i64 ax)
  obtain ⟨s2, g2⟩ := s1.stored (i * 3 + 2) (.int .i64 ay)
  have gg := World.grownBy.trans g1 g2
  rw [anc_set d.anchors i z ax ay hz] at s2
  have hkl := (List.getElem?_eq_some_iff.1 hk).1
  have hd : drc (X.set k (⟨d.anchors.set i (z.1, ax, ay), d.hang, d.adv⟩, .slice (some ⟨q, 0, none⟩) m c)) = drc X := by
    have : ∀ (X : List (AT.Dr × Value)) (k : Nat), X[k]? = some (d, .slice (some ⟨q, 0, none⟩) m c) → drc (X.set k (⟨d.anchors.set i (z.1, ax, ay), d.hang, d.adv⟩, .slice (some ⟨q, 0, none⟩) m c)) = drc X := by
      intro X
      induction X with
      | nil => intro k h; simp at h
      | cons e X ih =>
        intro k h
        cases k with
        | zero =>
          obtain rfl : e = (d, .slice (some ⟨q, 0, none⟩) m c) := by simpa using h
          rfl
        | succ k =>
          rw [List.set_cons_succ]
          show drv e ++ drc (X.set k _) = drv e ++ drc X
          rw [ih k (by simpa using h)]
    exact this X k hk
  refine ⟨⟨?_, fun x hx' => ?_, set_pair hk h3⟩, gg⟩
  · rw [List.length_set, hd]
    exact own_of_grown h1 gg (fun r hr e => a2 q rfl (by rw [hr]; exact e.symm))
  · obtain ⟨j, hj⟩ := List.mem_iff_getElem?.1 hx'
    rw [List.getElem?_set] at hj
    split at hj
    · have hj2 : some ((⟨d.anchors.set i (z.1, ax, ay), d.hang, d.adv⟩ : AT.Dr), Value.slice (some ⟨q, 0, none⟩) m c) = some x := by first | exact hj | (rw [if_pos hkl] at hj; exact hj)
      obtain rfl := Option.some.inj hj2
      simp only
      refine ⟨?_, a2⟩
      rw [List.length_set, hm]
      exact s2
    · rename_i hne
      obtain ⟨b1, b2⟩ := h2 x (List.mem_of_getElem? hj)
      refine ⟨own_of_grown b1 gg (fun r hr e => ?_), b2⟩
      have hjl := (List.getElem?_eq_some_iff.1 hj)
      have hkk := (List.getElem?_eq_some_iff.1 hk)
      have hp := List.pairwise_iff_getElem.1 h3
      have hrq : r = q := (Option.some.inj e).symm
      subst hrq
      rcases Nat.lt_or_ge j k with hlt | hge
      · have := hp j k hjl.1 hkk.1 hlt r (by rw [hjl.2]; exact hr)
        rw [hkk.2] at this
        exact this rfl
      · have := hp k j hkk.1 hjl.1 (by omega) r (by rw [hkk.2]; rfl)
        rw [hjl.2] at this
        exact this hr
end Go.Proofs.Ytpmmincophaaiaa
