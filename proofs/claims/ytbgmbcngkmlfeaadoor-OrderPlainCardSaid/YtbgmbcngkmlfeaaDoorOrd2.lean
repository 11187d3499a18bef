/- Plain facts: kinds, directions, levels and runs of a text. No conditions. -/
import Derived.Test.YtbgmbcngkmlfeaaDoorOrd1
import Derived.Test.YtbgmbcngkmlfeaaDoorCluFactsL
namespace Go.Proofs.YtbgmbcngkmlfeaaDoor.OP
set_option linter.unusedVariables false
open CP
/-- The first strong character says the base. -/
def fb : List Int → Int
  | [] => 1
  | k :: l => if k = 1 ∨ k = 2 then k else fb l
def sts (s : ByteArray) : List Int := (List.range s.size).map fun i => FC.stg (ch s i)
def bse (s : ByteArray) : Int := fb (sts s)
theorem fb_bd : ∀ l, fb l = 1 ∨ fb l = 2
  | [] => .inl rfl
  | k :: l => by
    unfold fb
    split
    · assumption
    · exact fb_bd l
/-- The directions: digits take the last one, gaps that of both sides, or the base. -/
def res : Int → List Int → List Int
  | _, [] => []
  | last, k :: l => if k = 1 ∨ k = 2 then k :: res k l else (if k = 0 then 0 else last) :: res last l
def lst (last : Int) : List Int → Int
  | [] => last
  | k :: l => if k = 1 ∨ k = 2 then lst k l else lst last l
def nx (b : Int) : List Int → Int
  | [] => b
  | x :: l => if x = 0 then nx b l else x
def fil (b : Int) : Int → List Int → List Int
  | _, [] => []
  | prev, x :: l => if x = 0 then (if prev = nx b l then prev else b) :: fil b prev l else x :: fil b x l
def dirs (b : Int) (K : List Int) : List Int := fil b b (res b K)
theorem res_len : ∀ (last : Int) (K : List Int), (res last K).length = K.length
  | _, [] => rfl
  | last, k :: l => by
    unfold res
    split
    · rw [List.length_cons, List.length_cons, res_len k l]
    · rw [List.length_cons, List.length_cons, res_len last l]
theorem fil_len (b : Int) : ∀ (prev : Int) (R : List Int), (fil b prev R).length = R.length
  | _, [] => rfl
  | prev, x :: l => by
    unfold fil
    split
    · rw [List.length_cons, List.length_cons, fil_len b prev l]
    · rw [List.length_cons, List.length_cons, fil_len b x l]
theorem dirs_len (b : Int) (K : List Int) : (dirs b K).length = K.length := by rw [dirs, fil_len, res_len]
theorem res_snoc : ∀ (last : Int) (K : List Int) (k : Int), res last (K ++ [k]) = res last K ++ [if k = 1 ∨ k = 2 then k else if k = 0 then 0 else lst last K]
  | last, [], k => by
    show res last [k] = _
    by_cases h : k = 1 ∨ k = 2 <;> simp [res, lst, h]
  | last, x :: K, k => by
    by_cases h : x = 1 ∨ x = 2
    · simp [res, lst, h, res_snoc x K k]
    · simp [res, lst, h, res_snoc last K k]
theorem lst_snoc : ∀ (last : Int) (K : List Int) (k : Int), lst last (K ++ [k]) = if k = 1 ∨ k = 2 then k else lst last K
  | last, [], k => by
    show lst last [k] = _
    by_cases h : k = 1 ∨ k = 2 <;> simp [lst, h]
  | last, x :: K, k => by
    by_cases h : x = 1 ∨ x = 2
    · simp [lst, h, lst_snoc x K k]
    · simp [lst, h, lst_snoc last K k]
theorem lst_bd {last : Int} (hl : last = 1 ∨ last = 2) : ∀ K, lst last K = 1 ∨ lst last K = 2
  | [] => hl
  | x :: K => by
    unfold lst
    split
    · exact lst_bd (by assumption) K
    · exact lst_bd hl K
theorem fil_zeros (b prev : Int) : ∀ (m : Nat) (l : List Int), fil b prev (List.replicate m 0 ++ l) = List.replicate m (if prev = nx b l then prev else b) ++ fil b prev l
  | 0, l => by simp
  | m + 1, l => by
    have hn : ∀ (m : Nat), nx b (List.replicate m 0 ++ l) = nx b l := fun m => by
      induction m with
      | zero => rfl
      | succ m ih => rw [List.replicate_succ, List.cons_append, nx, if_pos rfl, ih]
    rw [List.replicate_succ, List.cons_append, fil, if_pos rfl, hn, fil_zeros b prev m l, List.replicate_succ, List.cons_append]
theorem fil_nz {b prev x : Int} (h : x ≠ 0) (l : List Int) : fil b prev (x :: l) = x :: fil b x l := by rw [fil, if_neg h]
/-- What stood last, before a place. -/
def pv (b : Int) (R : List Int) : Int := R.getLast?.getD b
theorem fil_run (b : Int) : ∀ (X : List Int) (prev : Int) (l : List Int), (∀ x ∈ X, x ≠ 0) → fil b prev (X ++ l) = X ++ fil b (X.getLast?.getD prev) l
  | [], prev, l, _ => rfl
  | x :: X, prev, l, h => by
    rw [List.cons_append, fil_nz (h x (by simp)), fil_run b X x l (fun y hy => h y (by simp [hy])), List.cons_append]
    congr 2
    cases X with
    | nil => rfl
    | cons y Y => simp [List.getLast?_cons]
theorem fil_nozero {b : Int} (hb : b ≠ 0) : ∀ (R : List Int) (prev : Int), prev ≠ 0 → ∀ x ∈ fil b prev R, x ≠ 0
  | [], _, _, x, hx => by cases hx
  | r :: R, prev, hp, x, hx => by
    unfold fil at hx
    split at hx
    · rcases List.mem_cons.1 hx with rfl | hx
      · split <;> assumption
      · exact fil_nozero hb R prev hp x hx
    · rename_i hr
      rcases List.mem_cons.1 hx with rfl | hx
      · exact hr
      · exact fil_nozero hb R r hr x hx
/-- The level of a character. -/
def lv (b k d : Int) : Int := if d = 2 ∧ k ≠ 3 then 1 else if d = 2 ∨ b = 2 then 2 else 0
/-- The kinds: that of the base of a cluster, for each of its characters. -/
def kof (s : ByteArray) (x : Nat × Nat) : Int := FC.stg (ch s (base s (x.1 : Int) (x.2 : Int)).toNat)
def knd (s : ByteArray) (l : List (Nat × Nat)) : List Int := l.flatMap fun x => List.replicate (x.2 - x.1) (kof s x)
def kinds (s : ByteArray) : List Int := knd s (split s)
theorem knd_snoc (s : ByteArray) (l : List (Nat × Nat)) (x : Nat × Nat) : knd s (l ++ [x]) = knd s l ++ List.replicate (x.2 - x.1) (kof s x) := by simp [knd]
theorem sp_knd (s : ByteArray) : ∀ {f : Nat} {l : List (Nat × Nat)}, Sp s f l → f ≤ s.size → (knd s l).length = s.size - f
  | f, [], h, hf => by
    have : f = s.size := h
    simp [knd, this]
  | f, x :: l, h, hf => by
    obtain ⟨h1, rfl, h3⟩ := h
    have hb := stop_bd h1
    have := sp_knd s h3 hb.2
    unfold knd at this ⊢
    rw [List.flatMap_cons, List.length_append, List.length_replicate, this]
    simp only
    omega
theorem kinds_len (s : ByteArray) : (kinds s).length = s.size := by rw [kinds, sp_knd s (sp_split s) (Nat.zero_le _), Nat.sub_zero]
theorem stg_bd (c : Int) : FC.stg c = 0 ∨ FC.stg c = 1 ∨ FC.stg c = 2 ∨ FC.stg c = 3 := by
  unfold FC.stg
  split
  · omega
  · split
    · omega
    · split <;> omega
theorem kinds_bd {s : ByteArray} {k : Int} (h : k ∈ kinds s) : k = 0 ∨ k = 1 ∨ k = 2 ∨ k = 3 := by
  obtain ⟨x, -, hx⟩ := List.mem_flatMap.1 h
  obtain ⟨-, rfl⟩ := List.mem_replicate.1 hx
  exact stg_bd _
def levelAt (s : ByteArray) (i : Nat) : Int := lv (bse s) ((kinds s).getD i 0) (if cl s i = 1 then bse s else (dirs (bse s) (kinds s)).getD i 0)
def levels (s : ByteArray) : List Int := (List.range s.size).map (levelAt s)
theorem levels_len (s : ByteArray) : (levels s).length = s.size := by simp [levels]
theorem levels_get {s : ByteArray} {i : Nat} (h : i < s.size) : (levels s)[i]? = some (levelAt s i) := by rw [levels, List.getElem?_map, List.getElem?_range h]; rfl
/-- The longest pieces with one level. -/
abbrev Rn := Nat × Nat × Int
def rst (n : Nat) (o : List Rn) (y : Int) : List Rn := match o.getLast? with
  | some r => if r.2.2 = y then o.dropLast ++ [(r.1, n + 1, y)] else o ++ [(n, n + 1, y)]
  | none => [(n, n + 1, y)]
def runsF : Nat → List Rn → List Int → List Rn
  | _, o, [] => o
  | n, o, y :: l => runsF (n + 1) (rst n o y) l
def runs (l : List Int) : List Rn := runsF 0 [] l
theorem runsF_snoc : ∀ (l : List Int) (n : Nat) (o : List Rn) (y : Int), runsF n o (l ++ [y]) = rst (n + l.length) (runsF n o l) y
  | [], n, o, y => rfl
  | x :: l, n, o, y => by
    rw [List.cons_append, runsF, runsF_snoc l (n + 1), runsF, List.length_cons]
    congr 1
    omega
theorem runs_snoc (l : List Int) (y : Int) : runs (l ++ [y]) = rst l.length (runs l) y := by
  rw [runs, runsF_snoc, Nat.zero_add]; rfl
theorem rst_last (n : Nat) (o : List Rn) (y : Int) : ∃ f, (rst n o y).getLast? = some (f, n + 1, y) := by
  unfold rst
  cases h : o.getLast? with
  | none => exact ⟨n, rfl⟩
  | some r =>
    simp only
    split
    · exact ⟨r.1, by simp⟩
    · exact ⟨n, by simp⟩
/-- The last run has the last level. -/
theorem runs_last {l : List Int} {y : Int} (h : l.getLast? = some y) : ∃ f, (runs l).getLast? = some (f, l.length, y) := by
  rcases List.eq_nil_or_concat l with rfl | ⟨l', z, rfl⟩
  · simp at h
  · obtain rfl : z = y := by simpa using h
    have := rst_last l'.length (runs l') z
    rw [List.concat_eq_append, runs_snoc, List.length_append]
    exact this
theorem runs_nil : runs [] = [] := rfl
theorem rst_new {n : Nat} {o : List Rn} {y : Int} (h : ∀ r, o.getLast? = some r → r.2.2 ≠ y) : rst n o y = o ++ [(n, n + 1, y)] := by
  unfold rst
  cases e : o.getLast? with
  | none => rw [List.getLast?_eq_none_iff.1 e]; rfl
  | some r => simp only; rw [if_neg (h r e)]
theorem rst_same {n f e : Nat} {o : List Rn} {y : Int} : rst n (o ++ [(f, e, y)]) y = o ++ [(f, n + 1, y)] := by
  unfold rst
  simp
/-- A whole piece. -/
theorem runs_piece {P : List Int} {x : Int} (h : ∀ y, P.getLast? = some y → y ≠ x) : ∀ m, runs (P ++ List.replicate (m + 1) x) = runs P ++ [(P.length, P.length + (m + 1), x)]
  | 0 => by
    rw [List.replicate_one, runs_snoc]
    refine rst_new fun r hr => ?_
    cases hP : P.getLast? with
    | none => rw [List.getLast?_eq_none_iff.1 hP] at hr; simp [runs_nil] at hr
    | some y =>
      obtain ⟨f, e⟩ := runs_last hP
      rw [e] at hr
      obtain rfl := Option.some.inj hr
      exact h y hP
  | m + 1 => by
    rw [List.replicate_succ', ← List.append_assoc, runs_snoc, runs_piece h m, rst_same]
    simp
    omega
theorem runs_len : ∀ (l : List Int), (runs l).length ≤ l.length := fun l => by
  have h : ∀ (l : List Int) (n : Nat) (o : List Rn), (runsF n o l).length ≤ o.length + l.length := by
    intro l
    induction l with
    | nil => intro n o; simp [runsF]
    | cons y l ih =>
      intro n o
      have := ih (n + 1) (rst n o y)
      have h2 : (rst n o y).length ≤ o.length + 1 := by
        unfold rst
        cases e : o.getLast? with
        | none => simp
        | some r =>
          simp only
          split <;> simp
      rw [runsF, List.length_cons]
      omega
  have := h l 0 []
  simp only [List.length_nil, Nat.zero_add] at this
  exact this
end Go.Proofs.YtbgmbcngkmlfeaaDoor.OP
