/- The acts, on both. No conditions. -/
import Derived.Test.YtmnajongifdajaaMem28
namespace Go.Proofs.Ytmnajongifdajaa
set_option maxRecDepth 100000
set_option linter.unusedVariables false
open Go.RowKit Go.Deep ME
set_option maxHeartbeats 1000000 in
theorem rput_arg (W : World) (r : Nat) (bu s : Int) (P : List En) (G : Nat → Prop) (k : K4) (h : RrAt W r bu P G) (hs : s < 0 ∨ 65536 < s) :
    Calls Try.prog 38 #[ptr r, kyV k, .int .i64 s] W fun x w' => ∃ v, x = .returned (.tuple #[v, .int .i64 (ME.put bu k s P).2.2]) ∧ w'.ownsRow W.heap.size 34 4 v (ME.put bu k s P).2.1.length (ME.kc (ME.put bu k s P).2.1) ∧ RrP W w' r bu (ME.put bu k s P).1 G := by
  have hput : ME.put bu k s P = (P, [], 1) := by unfold ME.put; rw [if_pos hs]
  rw [hput]
  have hb := balloc (Below.refl _ W) (.cells #[.int .i64 k.1, .int .i64 k.2.1, .int .i64 k.2.2.1, .int .i64 k.2.2.2] 34)
  have h1 := h.below hb
  obtain ⟨⟨v, hr, -, -⟩, -, -⟩ := id h1
  obtain ⟨c0, c1, c2⟩ := rmem_cells hr
  have HFI := Lib.hid (RrP.same h hb)
  clear hput hb h1 h hr
  by_cases g0 : s < 0
  · go_enter Try.func38, Try.ntmps38
    go_wp2
    go_ret2
    exact ⟨_, rfl, World.ownsRow_nil _ _ _ _, HFI.out⟩
  · have g1 : 65536 < s := by omega
    go_enter Try.func38, Try.ntmps38
    go_wp2
    go_ret2
    exact ⟨_, rfl, World.ownsRow_nil _ _ _ _, HFI.out⟩
theorem rput_any (W : World) (r : Nat) (bu s : Int) (P : List En) (G : Nat → Prop) (k : K4) (h : RrAt W r bu P G) (ok : ME.Ok bu P) (hlen : P.length ≤ 1000000) :
    Calls Try.prog 38 #[ptr r, kyV k, .int .i64 s] W fun x w' => ∃ v, x = .returned (.tuple #[v, .int .i64 (ME.put bu k s P).2.2]) ∧ w'.ownsRow W.heap.size 34 4 v (ME.put bu k s P).2.1.length (ME.kc (ME.put bu k s P).2.1) ∧ RrP W w' r bu (ME.put bu k s P).1 G := by
  by_cases hs : s < 0 ∨ 65536 < s
  · exact rput_arg W r bu s P G k h hs
  · exact rput_in W r bu s P G k h ok (by omega) (by omega) hlen
section
variable {W : World} {H : Nat → Prop} {M mb root r : Nat} {bu : Int} {P1 P2 : List En} {k : Nat}
theorem PS.len_l {L : List (Nat × En)} (h : L.map Prod.snd = P1) : L.length = P1.length := by rw [← h, List.length_map]
theorem use_m (ky : K4) (hk : K4ok ky) (h : PS W M mb root r bu P1 P2 k H) (hb : k ≤ 100000) : Calls Try.prog 14 #[ptr M, kyV ky] W fun x w' => x = .returned (.bool (ME.use ky P1).2) ∧ PSr W H w' M mb root r bu (ME.use ky P1).1 P2 k := by
  obtain ⟨⟨L, n, F, G, hL, hn, hm, hr, hd, hF, hG⟩, o1, o2, l1, l2, lt⟩ := h
  subst hL
  refine (use_any W M mb root bu L n F ky hk hm o1).mono ?_
  rintro x w' ⟨rfl, ⟨L', hL', hm', ok'⟩, hf⟩
  refine ⟨rfl, PSr.of_m hm' (fun b hb => .inl hb) hL' (by rw [← hL']; exact ok') hn ?_ hf hr hd hF hG o2 l2⟩
  rw [ME.use_len ky o1]; exact l1
theorem use_r (ky : K4) (hk : K4ok ky) (h : PS W M mb root r bu P1 P2 k H) (hb : k ≤ 100000) : Calls Try.prog 35 #[ptr r, kyV ky] W fun x w' => x = .returned (.bool (ME.use ky P2).2) ∧ PSr W H w' M mb root r bu P1 (ME.use ky P2).1 k := by
  obtain ⟨⟨L, n, F, G, hL, hn, hm, hr, hd, hF, hG⟩, o1, o2, l1, l2, lt⟩ := h
  refine (ruse_any W r bu P2 G ky hr o2 (by omega)).mono ?_
  rintro x w' ⟨rfl, hp⟩
  refine ⟨rfl, PSr.of_r hp hL hn hm hd hF hG o1 (o2.use ky) l1 ?_⟩
  rw [ME.use_len ky o2]; exact l2
theorem drop_m (ky : K4) (hk : K4ok ky) (h : PS W M mb root r bu P1 P2 k H) (hb : k ≤ 100000) : Calls Try.prog 16 #[ptr M, kyV ky] W fun x w' => x = .returned (.int .i64 (ME.drop ky P1).2) ∧ PSr W H w' M mb root r bu (ME.drop ky P1).1 P2 k := by
  obtain ⟨⟨L, n, F, G, hL, hn, hm, hr, hd, hF, hG⟩, o1, o2, l1, l2, lt⟩ := h
  subst hL
  refine (drop_any W M mb root bu L n F ky hk hm o1).mono ?_
  rintro x w' ⟨rfl, ⟨L', hL', hm', ok'⟩, hf⟩
  refine ⟨rfl, PSr.of_m hm' (fun b hb => .inl hb) hL' (by rw [← hL']; exact ok') hn ?_ hf hr hd hF hG o2 l2⟩
  exact Nat.le_trans (ME.drop_len ky _) l1
theorem drop_r (ky : K4) (hk : K4ok ky) (h : PS W M mb root r bu P1 P2 k H) (hb : k ≤ 100000) : Calls Try.prog 37 #[ptr r, kyV ky] W fun x w' => x = .returned (.int .i64 (ME.drop ky P2).2) ∧ PSr W H w' M mb root r bu P1 (ME.drop ky P2).1 k := by
  obtain ⟨⟨L, n, F, G, hL, hn, hm, hr, hd, hF, hG⟩, o1, o2, l1, l2, lt⟩ := h
  refine (rdrop_any W r bu P2 G ky hr o2 (by omega)).mono ?_
  rintro x w' ⟨rfl, hp⟩
  refine ⟨rfl, PSr.of_r hp hL hn hm hd hF hG o1 (o2.drop ky) l1 ?_⟩
  exact Nat.le_trans (ME.drop_len ky _) l2
theorem pin_m (ky : K4) (on : Bool) (hk : K4ok ky) (h : PS W M mb root r bu P1 P2 k H) (hb : k ≤ 100000) : Calls Try.prog 15 #[ptr M, kyV ky, .bool on] W fun x w' => x = .returned (.int .i64 (ME.pin ky on P1).2) ∧ PSr W H w' M mb root r bu (ME.pin ky on P1).1 P2 k := by
  obtain ⟨⟨L, n, F, G, hL, hn, hm, hr, hd, hF, hG⟩, o1, o2, l1, l2, lt⟩ := h
  subst hL
  refine (pin_any W M mb root bu L n F ky on hk hm o1).mono ?_
  rintro x w' ⟨rfl, ⟨L', hL', hm', ok'⟩, hf⟩
  refine ⟨rfl, PSr.of_m hm' (fun b hb => .inl hb) hL' (by rw [← hL']; exact ok') hn ?_ hf hr hd hF hG o2 l2⟩
  rw [ME.pin_len ky on]; exact l1
theorem pin_r (ky : K4) (on : Bool) (hk : K4ok ky) (h : PS W M mb root r bu P1 P2 k H) (hb : k ≤ 100000) : Calls Try.prog 36 #[ptr r, kyV ky, .bool on] W fun x w' => x = .returned (.int .i64 (ME.pin ky on P2).2) ∧ PSr W H w' M mb root r bu P1 (ME.pin ky on P2).1 k := by
  obtain ⟨⟨L, n, F, G, hL, hn, hm, hr, hd, hF, hG⟩, o1, o2, l1, l2, lt⟩ := h
  refine (rpin_any W r bu P2 G ky on hr o2 (by omega)).mono ?_
  rintro x w' ⟨rfl, hp⟩
  refine ⟨rfl, PSr.of_r hp hL hn hm hd hF hG o1 (o2.pin ky on) l1 ?_⟩
  rw [ME.pin_len ky on]; exact l2
theorem put_m (ky : K4) (s : Int) (hk : K4ok ky) (h : PS W M mb root r bu P1 P2 k H) (hb : k ≤ 100000) : Calls Try.prog 17 #[ptr M, kyV ky, .int .i64 s] W fun x w' => ∃ v, x = .returned (.tuple #[v, .int .i64 (ME.put bu ky s P1).2.2]) ∧ w'.ownsRow W.heap.size 34 4 v (ME.put bu ky s P1).2.1.length (ME.kc (ME.put bu ky s P1).2.1) ∧ PSr W H w' M mb root r bu (ME.put bu ky s P1).1 P2 (k + 1) := by
  obtain ⟨⟨L, n, F, G, hL, hn, hm, hr, hd, hF, hG⟩, o1, o2, l1, l2, lt⟩ := h
  subst hL
  refine (put_any W M mb root bu s L n F ky hk hm o1 (by omega) (by rw [List.length_map] at l1; omega)).mono ?_
  rintro x w' ⟨⟨v, rfl, hrow⟩, ⟨L', n', F', hL', hn', hm', ok', hF'⟩, hf⟩
  refine ⟨v, rfl, hrow, PSr.of_m hm' hF' hL' (by rw [← hL']; exact ok') (by omega) ?_ hf hr hd hF hG o2 (by omega)⟩
  have := (ME.put_len bu ky s (L.map Prod.snd)).1
  omega
theorem put_r (ky : K4) (s : Int) (hk : K4ok ky) (h : PS W M mb root r bu P1 P2 k H) (hb : k ≤ 100000) : Calls Try.prog 38 #[ptr r, kyV ky, .int .i64 s] W fun x w' => ∃ v, x = .returned (.tuple #[v, .int .i64 (ME.put bu ky s P2).2.2]) ∧ w'.ownsRow W.heap.size 34 4 v (ME.put bu ky s P2).2.1.length (ME.kc (ME.put bu ky s P2).2.1) ∧ PSr W H w' M mb root r bu P1 (ME.put bu ky s P2).1 (k + 1) := by
  obtain ⟨⟨L, n, F, G, hL, hn, hm, hr, hd, hF, hG⟩, o1, o2, l1, l2, lt⟩ := h
  refine (rput_any W r bu s P2 G ky hr o2 (by omega)).mono ?_
  rintro x w' ⟨v, rfl, hrow, hp⟩
  refine ⟨v, rfl, hrow, PSr.of_r hp hL (by omega) hm hd hF hG o1 (o2.put ky s hk) (by omega) ?_⟩
  have := (ME.put_len bu ky s P2).1
  omega
theorem used_m (h : PS W M mb root r bu P1 P2 k H) : Calls Try.prog 19 #[ptr M] W fun x w' => x = .returned (.int .i64 (ME.sm P1)) ∧ w' = W := by
  obtain ⟨⟨L, n, F, G, hL, hn, hm, -⟩, -⟩ := h
  subst hL
  exact used_any W M mb root bu L n F hm
theorem used_r (h : PS W M mb root r bu P1 P2 k H) (hb : k ≤ 100000) : Calls Try.prog 24 #[ptr r] W fun x w' => x = .returned (.int .i64 (ME.sm P2)) ∧ w' = W := by
  obtain ⟨⟨L, n, F, G, hL, hn, hm, hr, -⟩, o1, o2, l1, l2, lt⟩ := h
  exact rused_any W r bu P2 G hr o2 (by omega)
theorem list_m (h : PS W M mb root r bu P1 P2 k H) (hb : k ≤ 100000) : Calls Try.prog 18 #[ptr M] W fun x w' => ∃ v, x = .returned v ∧ w'.ownsRow W.heap.size 34 4 v (P1.map En.key).length (ME.kc (P1.map En.key)) ∧ Below W.heap.size W w' := by
  obtain ⟨⟨L, n, F, G, hL, hn, hm, -⟩, o1, o2, l1, l2, lt⟩ := h
  subst hL
  refine (list_any W M mb root bu L n F hm (by rw [List.length_map] at l1; omega)).mono ?_
  rintro x w' ⟨v, rfl, hrow, hb⟩
  refine ⟨v, rfl, ?_, hb⟩
  rw [List.map_map, List.length_map]
  exact hrow
theorem list_r (h : PS W M mb root r bu P1 P2 k H) (hb : k ≤ 100000) : Calls Try.prog 25 #[ptr r] W fun x w' => ∃ v, x = .returned v ∧ w'.ownsRow W.heap.size 34 4 v (P2.map En.key).length (ME.kc (P2.map En.key)) ∧ Below W.heap.size W w' := by
  obtain ⟨⟨L, n, F, G, hL, hn, hm, hr, -⟩, o1, o2, l1, l2, lt⟩ := h
  refine (rlist_any W r bu P2 G hr (by omega)).mono ?_
  rintro x w' ⟨v, rfl, hrow, hb⟩
  exact ⟨v, rfl, by rw [List.length_map]; exact hrow, hb⟩
end
/-- Two new ones. -/
theorem PS.new {W W1 W2 : World} {M mb root r : Nat} {bu : Int} (hm : MmAt W1 M mb root bu [] 0 (fun b => W.heap.size ≤ b ∧ b < W1.heap.size)) (hb : Below W1.heap.size W1 W2) (hr : RrAt W2 r bu [] (fun b => W1.heap.size ≤ b ∧ b < W2.heap.size)) (h0 : 0 ≤ bu) (h1 : bu ≤ 1073741824) : PS W2 M mb root r bu [] [] 0 (fun b => W.heap.size ≤ b ∧ b < W2.heap.size) := by
  have ok : ME.Ok bu [] := ⟨h0, h1, (fun e he => by cases he), h0, List.nodup_nil, (fun e he => by cases he)⟩
  have hs := hb.size
  have hM := hm.lt M hm.fM
  refine ⟨⟨[], 0, _, _, rfl, Nat.le_refl _, hm.below hb, hr, fun b hb hg => ?_, fun b hb => ⟨hb.1, by omega⟩, fun b hb => ⟨?_, hb.2⟩⟩, ok, ok, Nat.le_refl _, Nat.le_refl _, fun b hb => hb.2⟩
  · omega
  · have := hm.fM.1
    omega
end Go.Proofs.Ytmnajongifdajaa
