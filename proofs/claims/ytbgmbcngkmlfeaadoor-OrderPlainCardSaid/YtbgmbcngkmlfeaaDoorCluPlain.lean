/- Plain facts on the clusters of a text. No conditions. -/
import Derived.Test.YtbgmbcngkmlfeaaDoorClsLaid
namespace Go.Proofs.YtbgmbcngkmlfeaaDoor.CP
/-- The character at a place. -/
def ch (s : ByteArray) (i : Nat) : Int := if h : i < s.size then (s[i].toNat : Int) else 0
def cl (s : ByteArray) (i : Nat) : Int := FC.cls (ch s i)
def ex (s : ByteArray) (i : Nat) : Bool := FC.extB (ch s i)
/-- Whether a cluster begins at i, not 0, behind one that begins at f. -/
def beg (s : ByteArray) (f i : Nat) : Bool := (decide (cl s (i - 1) = 1) || decide (i = f + 6)) || (!(decide (cl s i = 9) && decide (cl s (i - 1) = 10)) && !ex s i)
/-- The first place from i on at which one begins, or the end. -/
def nxt (s : ByteArray) (f : Nat) : Nat → Nat → Nat
  | 0, i => i
  | g + 1, i => if beg s f i then i else nxt s f g (i + 1)
def stop (s : ByteArray) (f : Nat) : Nat := nxt s f (s.size - (f + 1)) (f + 1)
def spans (s : ByteArray) : Nat → Nat → List (Nat × Nat)
  | 0, _ => []
  | g + 1, f => if f < s.size then (f, stop s f) :: spans s g (stop s f) else []
def split (s : ByteArray) : List (Nat × Nat) := spans s s.size 0
theorem ch_at {s : ByteArray} {i : Nat} (h : i < s.size) : ch s i = (s[i].toNat : Int) := dif_pos h
theorem nxt_bd (s : ByteArray) (f : Nat) : ∀ g i, i ≤ nxt s f g i ∧ nxt s f g i ≤ i + g
  | 0, i => ⟨Nat.le_refl _, Nat.le_refl _⟩
  | g + 1, i => by
    unfold nxt
    split
    · omega
    · have := nxt_bd s f g (i + 1); omega
theorem stop_bd {s : ByteArray} {f : Nat} (h : f < s.size) : f < stop s f ∧ stop s f ≤ s.size := by
  have := nxt_bd s f (s.size - (f + 1)) (f + 1)
  unfold stop
  omega
theorem nxt_here {s : ByteArray} {f i g : Nat} (h : beg s f i = true) (hg : 0 < g) : nxt s f g i = i := by
  obtain ⟨g, rfl⟩ : ∃ k, g = k + 1 := ⟨g - 1, by omega⟩
  unfold nxt
  rw [if_pos h]
theorem nxt_on {s : ByteArray} {f i g : Nat} (h : beg s f i = false) (hg : 0 < g) : nxt s f g i = nxt s f (g - 1) (i + 1) := by
  obtain ⟨g, rfl⟩ : ∃ k, g = k + 1 := ⟨g - 1, by omega⟩
  rw [nxt, h]
  rfl
theorem spans_end (s : ByteArray) (g f : Nat) (h : s.size ≤ f) : spans s g f = [] := by
  cases g with
  | zero => rfl
  | succ g => unfold spans; rw [if_neg (by omega)]
theorem spans_next {s : ByteArray} {g f : Nat} (h : f < s.size) (hg : s.size ≤ f + g) : ∃ g', s.size ≤ stop s f + g' ∧ spans s g f = (f, stop s f) :: spans s g' (stop s f) := by
  obtain ⟨g, rfl⟩ : ∃ k, g = k + 1 := ⟨g - 1, by omega⟩
  have := stop_bd h
  exact ⟨g, by omega, by rw [spans, if_pos h]⟩
/-- What has come is pre, and the next cluster begins at f. -/
def At (s : ByteArray) (pre : List (Nat × Nat)) (f : Nat) : Prop := f ≤ s.size ∧ ∃ g, s.size ≤ f + g ∧ split s = pre ++ spans s g f
theorem At.start (s : ByteArray) : At s [] 0 := ⟨Nat.zero_le _, s.size, by omega, rfl⟩
theorem At.next {s : ByteArray} {pre : List (Nat × Nat)} {f : Nat} (h : At s pre f) (hf : f < s.size) : At s (pre ++ [(f, stop s f)]) (stop s f) := by
  obtain ⟨_, g, hg, e⟩ := h
  obtain ⟨g', hg', e'⟩ := spans_next hf hg
  exact ⟨(stop_bd hf).2, g', hg', by rw [e, e', List.append_assoc]; rfl⟩
theorem At.done {s : ByteArray} {pre : List (Nat × Nat)} {f : Nat} (h : At s pre f) (hf : s.size ≤ f) : pre = split s := by
  obtain ⟨_, g, hg, e⟩ := h
  rw [e, spans_end s g f hf, List.append_nil]
theorem At.pfx {s : ByteArray} {pre : List (Nat × Nat)} {f : Nat} (h : At s pre f) : pre <+: split s := by
  obtain ⟨_, g, hg, e⟩ := h
  exact ⟨_, e.symm⟩
theorem At.more {s : ByteArray} {pre : List (Nat × Nat)} {f : Nat} (h : At s pre f) (hf : f < s.size) : pre.length < (split s).length := by
  obtain ⟨_, g, hg, e⟩ := h
  obtain ⟨g', _, e'⟩ := spans_next hf hg
  rw [e, e']; simp
theorem spans_length (s : ByteArray) : ∀ g f, (spans s g f).length ≤ g
  | 0, _ => Nat.le_refl _
  | g + 1, f => by
    unfold spans
    split
    · have := spans_length s g (stop s f); simp; omega
    · simp
theorem split_length (s : ByteArray) : (split s).length ≤ s.size := spans_length s _ _
end Go.Proofs.YtbgmbcngkmlfeaaDoor.CP
