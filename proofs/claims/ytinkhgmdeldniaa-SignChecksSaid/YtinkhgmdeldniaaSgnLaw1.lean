/- An array of five opened; its box. No conditions. -/
import Derived.Test.YtinkhgmdeldniaaSgnLaw0
import Derived.ChangeMaps5
namespace Go.Proofs.Ytinkhgmdeldniaa
set_option maxRecDepth 100000
set_option linter.unusedVariables false
open Go.ChangeShapes Go.WideShapes Go.ChangeAt Go.RowKit Go.Joins
theorem box_five (w : World) (a b c d e : Int) : ∀ V, Below (w.alloc (.cells #[.int .u8 a, .int .u8 b, .int .u8 c, .int .u8 d, .int .u8 e] 48)).heap.size (w.alloc (.cells #[.int .u8 a, .int .u8 b, .int .u8 c, .int .u8 d, .int .u8 e] 48)) V → V.cell? ⟨w.heap.size, 0, none⟩ = some (.int .u8 a) ∧ V.cell? ⟨w.heap.size, 1, none⟩ = some (.int .u8 b) ∧ V.cell? ⟨w.heap.size, 2, none⟩ = some (.int .u8 c) ∧ V.cell? ⟨w.heap.size, 3, none⟩ = some (.int .u8 d) ∧ V.cell? ⟨w.heap.size, 4, none⟩ = some (.int .u8 e) := fun V hV => by
  have h1 := (hV.block w.heap.size (by simp)).trans (World.alloc_heap_new w _)
  refine ⟨?_, ?_, ?_, ?_, ?_⟩ <;> simp [World.cell?, h1]
section
variable {H : Type} {enc : TypeId × Value → H} {P : Program} {w : World} {base : Nat} {spare : Nat → Bool} {held : Bool}
theorem array5 {cs : Array Value} (h : cs.size = 5) : ∃ a b c d e, cs = #[a, b, c, d, e] := by
  obtain ⟨l⟩ := cs
  simp at h
  match l, h with
  | [a, b, c, d, e], _ => exact ⟨a, b, c, d, e, rfl⟩
theorem open_arr5 {e t : TypeId} {k : IntKind} {r : Reach} {b0 : Nat} {v : Value} {d : DataW H} {p : List MemPlace} (ht : P.underlying t = some (.array 5 e)) (he : P.underlying e = some (.int k)) (hc : P.cellsOf e = 1) (hC : P.cellsOf t = 5)
    (hv : Value.okWide P w r b0 t v) (h : DataW.Trod enc P w base spare held t v d p) : ∃ a b c d e : Int, v = .agg #[.int k a, .int k b, .int k c, .int k d, .int k e] ∧ (Lit.int k a).wf = true ∧ (Lit.int k b).wf = true ∧ (Lit.int k c).wf = true ∧ (Lit.int k d).wf = true ∧ (Lit.int k e).wf = true := by
  obtain ⟨cs, rfl, hsz⟩ := okWide_arr ht hv
  obtain ⟨c0, c1, c2, c3, c4, rfl⟩ := array5 (hsz.trans hC)
  obtain ⟨fuel, hf⟩ := h
  obtain ⟨xs, m, _, _, _, hl, hx⟩ := DataW.trod_array ht hf
  have x0 := hx 0 (by omega)
  have x1 := hx 1 (by omega)
  have x2 := hx 2 (by omega)
  have x3 := hx 3 (by omega)
  have x4 := hx 4 (by omega)
  rw [hc, List.getElem?_eq_getElem (by omega)] at x0 x1 x2 x3 x4
  simp [Value.cells] at x0 x1 x2 x3 x4
  obtain ⟨a0, e0, _, w0⟩ := DataW.trod_int he x0
  obtain ⟨a1, e1, _, w1⟩ := DataW.trod_int he x1
  obtain ⟨a2, e2, _, w2⟩ := DataW.trod_int he x2
  obtain ⟨a3, e3, _, w3⟩ := DataW.trod_int he x3
  obtain ⟨a4, e4, _, w4⟩ := DataW.trod_int he x4
  simp at e0 e1 e2 e3 e4
  subst e0 e1 e2 e3 e4
  exact ⟨a0, a1, a2, a3, a4, rfl, w0, w1, w2, w3, w4⟩
end
theorem one_cell {X : World} {B : Nat} {a : Value} {t : TypeId} (h : X.heap[B]? = some (.cells #[a] t (0, 0))) : X.cell? ⟨B, 0, none⟩ = some a := by
  simp [World.cell?, h]
open Go.Deep in
theorem conv_b (W : World) (b : Int) : Sem.run Try.prog (convert 51 9 (.slice (some ⟨W.heap.size, 0, none⟩) 1 1)) (W.alloc (.cells #[.int .u8 b] 5)) = .ok (.string (ByteArray.empty.push (UInt8.ofNat b.toNat))) (W.alloc (.cells #[.int .u8 b] 5)) := by
  have h := run_convert_bytes_string (P := Try.prog) (W.alloc (.cells #[.int .u8 b] 5)) 51 9 5 (some ⟨W.heap.size, 0, none⟩) 1 1 Try.underlying51 Try.underlying5 Try.underlying9
  rw [h]
  have hl := run_loadCells_list (P := Try.prog) (W.alloc (.cells #[.int .u8 b] 5)) ⟨W.heap.size, 0, none⟩ [.int .u8 b] (fun j v hj => by
    match j, hj with
    | 0, hj => simp at hj; subst hj; exact one_cell (World.alloc_heap_new W (.cells #[.int .u8 b] 5))
    | j + 1, hj => simp at hj)
  exact run_bytesToString _ _ 1 1 [b] hl
open Go.Deep in
theorem conv_d (W : World) (b : Int) : Sem.run Try.prog (convert 51 9 (.slice (some ⟨W.heap.size, 0, none⟩) 1 1)) ((W.alloc (.cells #[.int .u8 b] 5)).drew) = .ok (.string (ByteArray.empty.push (UInt8.ofNat b.toNat))) ((W.alloc (.cells #[.int .u8 b] 5)).drew) := by
  have h := run_convert_bytes_string (P := Try.prog) ((W.alloc (.cells #[.int .u8 b] 5)).drew) 51 9 5 (some ⟨W.heap.size, 0, none⟩) 1 1 Try.underlying51 Try.underlying5 Try.underlying9
  rw [h]
  have hl := run_loadCells_list (P := Try.prog) ((W.alloc (.cells #[.int .u8 b] 5)).drew) ⟨W.heap.size, 0, none⟩ [.int .u8 b] (fun j v hj => by
    match j, hj with
    | 0, hj => simp at hj; subst hj; exact one_cell (World.alloc_heap_new W (.cells #[.int .u8 b] 5))
    | j + 1, hj => simp at hj)
  exact run_bytesToString _ _ 1 1 [b] hl
theorem one_size (t : ByteArray) (b : UInt8) : (t ++ ByteArray.empty.push b).size = t.size + 1 := by
  rw [ByteArray.size_append]; rfl
theorem box_one (w : World) (u : Value) (T : TypeId) : (w.alloc (.cells #[u] T)).cell? ⟨w.heap.size, 0, none⟩ = some u := one_cell (World.alloc_heap_new w _)
namespace SG
theorem txs_le {l : List ByteArray} (hs : ∀ s ∈ l, s.size ≤ 100) : (txs l).size ≤ 10 + l.length * 110 := by
  unfold txs
  rw [W.WP.S_size]
  unfold W.WP.texts
  have h1 := W.WP.flat_len W.WP.text 110 (l.map (·.data.toList)) (fun x hx => by
    obtain ⟨s, h, rfl⟩ := List.mem_map.1 hx
    have := W.WP.text_len s.data.toList
    have h2 := hs s h
    have h3 : s.data.toList.length = s.size := Array.length_toList
    omega)
  have h2 := W.WP.int_len (l.map (·.data.toList)).length
  rw [List.length_append]
  rw [List.length_map] at h1
  omega
theorem parts_le {i : Int} {l p : List ByteArray} (hl : ∀ s ∈ l, s.size ≤ 100) (nl : l.length ≤ 25) (hp : ∀ s ∈ p, s.size ≤ 100) (np : p.length ≤ 25) : (parts i l p).size ≤ 10000 := by
  have h1 := txs_le hl
  have h2 := txs_le hp
  have h3 := W.WP.int_size i
  unfold parts
  rw [ByteArray.size_append, ByteArray.size_append]
  omega
theorem sign_le (seed msg : ByteArray) {n i : Nat} (h : 1 ≤ n ∧ n ≤ 16) (hi : i < n) : (sign seed (n : Int) (i : Int) msg).1.size ≤ 10000 := by
  rw [sign_good h hi]
  exact parts_le (fun s hs => by rw [lns_small seed (i : Int) msg 18 s hs]; omega) (by rw [lns_len]; omega) (fun s hs => by have := prf_eight seed n i (hOf n) s hs; omega) (by rw [DG.prf_len]; have := (hOf_is h.2).le20 (by omega); omega)
end SG
end Go.Proofs.Ytinkhgmdeldniaa
