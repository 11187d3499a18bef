/- What is read of a signature that was made; what is signed is accepted. No conditions. -/
import Derived.Test.YtinkhgmdeldniaaSgnChk
import Derived.Test.YtinkhgmdeldniaaWireRound
namespace Go.Proofs.Ytinkhgmdeldniaa.SG
set_option maxRecDepth 100000
set_option linter.unusedVariables false
open Go.RowKit
theorem S_map (l : List ByteArray) : (l.map (·.data.toList)).map W.WP.S = l := by
  rw [List.map_map]
  conv => rhs; rw [← List.map_id l]
  apply List.map_congr_left
  intro s _
  exact W.WP.S_of s
theorem parts_list (i : Int) (L P : List ByteArray) : (parts i L P).data.toList = W.WP.int i ++ (W.WP.texts (L.map (·.data.toList)) ++ W.WP.texts (P.map (·.data.toList))) := by
  unfold parts txs
  rw [W.WP.S_append, W.WP.S_append, W.WP.S_toList, List.append_assoc]
/-- The three readings. -/
theorem parts_reads {i : Int} {L P : List ByteArray} {s : List UInt8} (hs : (parts i L P).data.toList = s) (h0 : -9223372036854775808 ≤ i) (h1 : i ≤ 9223372036854775807) (hL : ∀ x ∈ L, x.size ≤ 1000000000) (hP : ∀ x ∈ P, x.size ≤ 1000000000) (nL : L.length ≤ 1000000000) (nP : P.length ≤ 1000000000) :
    ∃ a b : Nat, (⟨s, 0, false⟩ : W.WP.RS).int = (i, ⟨s, a, false⟩) ∧ (⟨s, a, false⟩ : W.WP.RS).texts = (L.map (·.data.toList), ⟨s, b, false⟩) ∧ (⟨s, b, false⟩ : W.WP.RS).texts = (P.map (·.data.toList), ⟨s, s.length, false⟩) := by
  rw [parts_list] at hs
  obtain ⟨x, hx⟩ : ∃ x, W.WP.int i = x := ⟨_, rfl⟩
  obtain ⟨y, hy⟩ : ∃ y, W.WP.texts (L.map (·.data.toList)) = y := ⟨_, rfl⟩
  obtain ⟨z, hz⟩ : ∃ z, W.WP.texts (P.map (·.data.toList)) = z := ⟨_, rfl⟩
  rw [hx, hy, hz] at hs
  have r1 := W.WP.int_read (r := ⟨s, 0, false⟩) (n := i) (t := y ++ z) rfl (by rw [← hs, hx]; rfl) h0 h1
  have hb : ∀ (l : List ByteArray), (∀ x ∈ l, x.size ≤ 1000000000) → ∀ x ∈ l.map (·.data.toList), x.length ≤ 9223372036854775807 := fun l h x hx => by
    obtain ⟨u, hu, rfl⟩ := List.mem_map.1 hx
    have := h u hu
    have h3 : u.data.toList.length = u.size := Array.length_toList
    omega
  have r2 := W.WP.texts_read' (L := L.map (·.data.toList)) (r := ⟨s, x.length, false⟩) (t := z) (hb L hL) rfl (by rw [← hs]; simp) (by rw [← hs, hy]; simp) (by rw [List.length_map]; omega)
  have r3 := W.WP.texts_read' (L := P.map (·.data.toList)) (r := ⟨s, x.length + y.length, false⟩) (t := []) (hb P hP) rfl (by rw [← hs]; simp) (by rw [← hs, hz]; simp) (by rw [List.length_map]; omega)
  rw [hx] at r1
  rw [hy] at r2
  rw [hz] at r3
  refine ⟨x.length, x.length + y.length, ?_, r2, ?_⟩
  · rw [r1]
    simp only [Nat.zero_add]
  · rw [r3]
    simp only [← hs, List.length_append, Nat.add_assoc]
theorem parts_parse {i : Int} {L P : List ByteArray} (h0 : -9223372036854775808 ≤ i) (h1 : i ≤ 9223372036854775807) (hL : ∀ x ∈ L, x.size ≤ 1000000000) (hP : ∀ x ∈ P, x.size ≤ 1000000000) (nL : L.length ≤ 1000000000) (nP : P.length ≤ 1000000000) :
    num (parts i L P) = i ∧ lks (parts i L P) = L ∧ prs (parts i L P) = P ∧ (rdE (parts i L P)).bad = false ∧ (rdE (parts i L P)).left = 0 := by
  obtain ⟨a, b, e1, e2, e3⟩ := parts_reads rfl h0 h1 hL hP nL nP
  have e0 : rd0 (parts i L P) = ⟨(parts i L P).data.toList, 0, false⟩ := rfl
  refine ⟨?_, ?_, ?_, ?_, ?_⟩
  · unfold num; rw [e0, e1]
  · unfold lks; rw [e0, e1, e2]; exact S_map L
  · unfold prs; rw [e0, e1, e2, e3]; exact S_map P
  · unfold rdE; rw [e0, e1, e2, e3]
  · unfold rdE; rw [e0, e1, e2, e3]; simp [W.WP.RS.left]
theorem lk_lk (s : ByteArray) (a : Nat) : ∀ b, lk (lk s a) b = lk s (a + b)
  | 0 => rfl
  | b + 1 => by rw [lk, lk_lk s a b]; rfl
theorem lns_get (seed : ByteArray) (i : Int) (msg : ByteArray) {k : Nat} (h : k < 18) : (lns seed i msg 18).getD k ⟨#[]⟩ = link seed i (k : Int) (dig msg k) := by
  rw [List.getD_eq_getElem?_getD, List.getElem?_eq_getElem (by rw [lns_len]; exact h)]
  simp [lns]
theorem fin_ends (seed : ByteArray) (i : Int) (msg : ByteArray) : ∀ k, k ≤ 18 → fin msg (lns seed i msg 18) k = ends seed i k
  | 0, _ => rfl
  | k + 1, h => by
    rw [fin, ends, fin_ends seed i msg k (by omega), lns_get seed i msg (by omega)]
    congr 1
    unfold link
    rw [lk_lk]
    congr 1
    have := (dig_at (msg := msg) (c := k) (by omega)).2
    omega
theorem lns_are (seed : ByteArray) (i : Int) (msg : ByteArray) : are (lns seed i msg 18) = true := by
  rw [are_all (fun k hk => lns_small seed i msg 18 _ (List.getElem_mem hk)), lns_len]
  rfl
theorem lns_big (seed : ByteArray) (i : Int) (msg : ByteArray) : ∀ x ∈ lns seed i msg 18, x.size ≤ 1000000000 := fun x hx => by rw [lns_small seed i msg 18 x hx]; omega
theorem prf_big (seed : ByteArray) (n i k : Nat) : ∀ x ∈ DG.prf (leaves seed n) i k, x.size ≤ 1000000000 := fun x hx => by have := nbr_small (seed := seed) (n := n) i k x hx; omega
theorem leaf_at (seed : ByteArray) {n i : Nat} (hi : i < n) : (leaves seed n)[i]? = some (leaf seed (i : Int)) := by
  rw [List.getElem?_eq_getElem (by rw [leaves_len]; exact hi)]
  simp [leaves]
theorem sign_parse (seed msg : ByteArray) {n i : Nat} (h : 1 ≤ n ∧ n ≤ 16) (hi : i < n) : num (sign seed (n : Int) (i : Int) msg).1 = (i : Int) ∧ lks (sign seed (n : Int) (i : Int) msg).1 = lns seed (i : Int) msg 18 ∧ prs (sign seed (n : Int) (i : Int) msg).1 = DG.prf (leaves seed n) i (hOf n) ∧ (rdE (sign seed (n : Int) (i : Int) msg).1).bad = false ∧ (rdE (sign seed (n : Int) (i : Int) msg).1).left = 0 := by
  rw [sign_good h hi]
  exact parts_parse (by omega) (by omega) (lns_big seed _ msg) (prf_big seed n i _) (by rw [lns_len]; omega) (by rw [DG.prf_len]; have := (hOf_is h.2).le20 (by omega); omega)
theorem root_proved (seed : ByteArray) {n i : Nat} (h : 1 ≤ n ∧ n ≤ 16) (hi : i < n) : DG.verify (pub seed (n : Int)).1 (leaf seed (i : Int)) (i : Int) (DG.prf (leaves seed n) i (hOf n)) = true := by
  rw [pub_good h]
  have hh := hOf_is h.2
  exact DG.verify_right (by rw [leaves_len]; exact hh) (hh.le20 (by omega)) (by rw [leaves_len]; exact hi) (leaf_at seed hi)
/-- What is signed is accepted. -/
theorem check_right (seed msg : ByteArray) {n i : Nat} (h : 1 ≤ n ∧ n ≤ 16) (hi : i < n) : check (pub seed (n : Int)).1 msg (sign seed (n : Int) (i : Int) msg).1 = true := by
  obtain ⟨h1, h2, h3, h4, h5⟩ := sign_parse seed msg h hi
  rw [check_all h4 h5 (by rw [h2]; exact lns_are _ _ _), h1, h2, h3, fin_ends _ _ _ 18 (Nat.le_refl _)]
  exact root_proved seed h hi
end Go.Proofs.Ytinkhgmdeldniaa.SG
