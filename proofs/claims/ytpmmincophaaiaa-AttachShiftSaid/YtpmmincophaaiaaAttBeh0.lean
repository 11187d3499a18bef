/- Parts of rows of glyphs and of places. No conditions. -/
import Derived.Test.YtpmmincophaaiaaAttDel
namespace Go.Proofs.Ytpmmincophaaiaa
set_option maxRecDepth 100000
set_option linter.unusedVariables false
open Go.RowKit Go.Deep
theorem own_cap {w : World} {B e size n : Nat} {a : Option Addr} {c : Nat} {xs : List Value} (h : w.ownsRow B e size (.slice a n c) n xs) : n ≤ c ∧ c ≤ maxLen := by
  rcases h.2 with ⟨hv, hn⟩ | ⟨g, cap, cur, hv, _, _, h1, h2, _⟩
  · injection hv with _ h2 h3
    subst h3
    exact ⟨by omega, Nat.zero_le _⟩
  · injection hv with _ _ h4
    subst h4
    exact ⟨h1, h2⟩
theorem made_k (LL : List (List Int)) (v : Value) (w : World) (hv : LLAt w v LL) (hlen : LL.length ≤ maxLen) :
    Calls Try.prog 11 #[v] w fun e w' => ∃ a c, e = .returned (.slice a (AT.made LL).length c) ∧ DsAt w' (.slice a (AT.made LL).length c) (AT.made LL) ∧ ((AT.made LL).length ≤ c ∧ c ≤ maxLen) ∧ Below w.heap.size w w' := by
  refine (made_any LL v w hv hlen).mono ?_
  rintro e w' ⟨u, X, rfl, ho, hm, hb⟩
  obtain ⟨a, c, rfl⟩ := own_shape ho.1
  have hl : X.length = (AT.made LL).length := by rw [← hm, List.length_map]
  have h1 := ho.ds
  have h2 := own_cap ho.1
  rw [hm, hl] at h1
  rw [hl] at h2
  exact ⟨a, c, by rw [hl], h1, h2, hb⟩
theorem mplaces_k (l : List AT.Dr) (v : Value) (w : World) (hl : l.length ≤ 1000000000000) (hk : ∀ d ∈ l, d.anchors.length ≤ 1000000000000) (hv : DsAt w v l) :
    Calls Try.prog 13 #[v] w fun e w' => ∃ a c, e = .returned (.slice a (AT.places l).length c) ∧ PtAt w' (.slice a (AT.places l).length c) (AT.places l) ∧ ((AT.places l).length ≤ c ∧ c ≤ maxLen) ∧ Below w.heap.size w w' := by
  refine (places_any l v w hl hk hv).mono ?_
  rintro e w' ⟨u, rfl, ho, hb⟩
  obtain ⟨a, c, rfl⟩ := own_shape ho
  exact ⟨a, c, rfl, own_pt rfl ho, own_cap ho, hb⟩
theorem DsAt.take {W : World} {a : Option Addr} {n c k : Nat} {D : List AT.Dr} (h : DsAt W (.slice a n c) D) (hk : k ≤ D.length) : DsAt W (.slice a k c) (D.take k) := by
  obtain ⟨a', c', e, h⟩ := h
  injection e with e1 e2 e3
  subst e1 e3
  refine ⟨a, c, by rw [List.length_take, Nat.min_eq_left hk], ?_⟩
  rcases h with h | ⟨g, o, e4, hg, hc⟩
  · exact .inl (by rw [h]; simp)
  · refine .inr ⟨g, o, e4, hg, fun i d hd => hc i d ?_⟩
    rw [List.getElem?_take] at hd
    split at hd
    · exact hd
    · simp at hd
theorem PtAt.take {W : World} {a : Option Addr} {n c k : Nat} {D : List (Int × Int)} (h : PtAt W (.slice a n c) D) (hk : k ≤ D.length) : PtAt W (.slice a k c) (D.take k) := by
  obtain ⟨a', c', e, h⟩ := h
  injection e with e1 e2 e3
  subst e1 e3
  refine ⟨a, c, by rw [List.length_take, Nat.min_eq_left hk], ?_⟩
  rcases h with h | ⟨g, o, e4, hg, hc⟩
  · exact .inl (by rw [h]; simp)
  · refine .inr ⟨g, o, e4, hg, fun i d hd => hc i d ?_⟩
    rw [List.getElem?_take] at hd
    split at hd
    · exact hd
    · simp at hd
end Go.Proofs.Ytpmmincophaaiaa
