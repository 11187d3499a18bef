/- The examples of the chapter. No conditions. -/
import Derived.Test.YtmnajongifdajaaMem33
namespace Go.Proofs.Ytmnajongifdajaa
set_option maxRecDepth 100000
set_option linter.unusedVariables false
open Go.RowKit Go.Deep ME
section
variable {W w : World} {F : Nat → Prop} {M mb root : Nat} {bu : Int} {P Q : List En} {k : Nat}
theorem puts_s0 (n s : Int) (h : MSr W F w M mb root bu P k) (hk : k ≤ 1000) (h0 : 0 ≤ n) (h1 : n ≤ 1000) (hput : ME.put bu (kyE n) s P = (Q, [], 0)) :
    Calls Try.prog 21 #[ptr M, .int .i64 n, .int .i64 s, .slice none 0 0] w fun x w' => x = .returned (.bool true) ∧ MSr W F w' M mb root bu Q (k + 1) := by
  obtain ⟨f, F', hm, hs⟩ := h
  refine (puts_c n s none 0 [] hm hk h0 h1 (Src.nil w) (fun g o e => by cases e) (fun x hx => by cases hx) (by simp) hput).mono ?_
  rintro x w' ⟨rfl, hr⟩
  exact ⟨rfl, MSr.glue f hs hr⟩
theorem puts_s1 (n s : Int) (l : List Int) (h : MSr W F w M mb root bu P k) (hk : k ≤ 1000) (h0 : 0 ≤ n) (h1 : n ≤ 1000) (hl : ∀ x ∈ l, 0 ≤ x ∧ x ≤ 1000) (hll : l.length ≤ 1000) (hput : ME.put bu (kyE n) s P = (Q, l.map kyE, 0)) :
    Calls Try.prog 21 #[ptr M, .int .i64 n, .int .i64 s, .slice (some ⟨w.heap.size, 0, none⟩) l.length l.length] (w.alloc (.cells (l.map (Value.int .i64)).toArray 3)) fun x w' => x = .returned (.bool true) ∧ MSr W F w' M mb root bu Q (k + 1) := by
  obtain ⟨f, F', hm, hs⟩ := h
  have hb := balloc (Below.refl _ w) (.cells (l.map (Value.int .i64)).toArray 3)
  have hsrc : Src (w.alloc (.cells (l.map (Value.int .i64)).toArray 3)) (.slice (some ⟨w.heap.size, 0, none⟩) l.length l.length) (l.map (Value.int .i64)) := by
    have := own_src (own_lit w (l.map (Value.int .i64)) 3 w.heap.size (Nat.le_refl _) (by rw [List.length_map]; unfold maxLen; omega)) rfl
    rwa [List.length_map] at this
  refine (puts_c n s (some ⟨w.heap.size, 0, none⟩) l.length l (hm.below hb) hk h0 h1 hsrc (fun g o e hF => ?_) hl hll hput).mono ?_
  · injection e with e
    injection e with e
    obtain ⟨L, n', -, -, hm'⟩ := hm.out
    have := hm'.lt g hF
    omega
  · rintro x w' ⟨rfl, hr⟩
    exact ⟨rfl, MSr.glue (f.then hb) hs hr⟩
theorem use_c {r : Bool} (ky : K4) (hk : K4ok ky) (h : MSr W F w M mb root bu P k) (hp : ME.use ky P = (Q, r)) : Calls Try.prog 14 #[ptr M, kyV ky] w fun x w' => x = .returned (.bool r) ∧ MSr W F w' M mb root bu Q k := by
  have := use_s ky hk h
  rwa [hp] at this
theorem drop_c {r : Int} (ky : K4) (hk : K4ok ky) (h : MSr W F w M mb root bu P k) (hp : ME.drop ky P = (Q, r)) : Calls Try.prog 16 #[ptr M, kyV ky] w fun x w' => x = .returned (.int .i64 r) ∧ MSr W F w' M mb root bu Q k := by
  have := drop_s ky hk h
  rwa [hp] at this
theorem pin_c {r : Int} (ky : K4) (on : Bool) (hk : K4ok ky) (h : MSr W F w M mb root bu P k) (hp : ME.pin ky on P = (Q, r)) : Calls Try.prog 15 #[ptr M, kyV ky, .bool on] w fun x w' => x = .returned (.int .i64 r) ∧ MSr W F w' M mb root bu Q k := by
  have := pin_s ky on hk h
  rwa [hp] at this
theorem used_c {r : Int} (h : MSr W F w M mb root bu P k) (hp : ME.sm P = r) : Calls Try.prog 19 #[ptr M] w fun x w' => x = .returned (.int .i64 r) ∧ MSr W F w' M mb root bu P k := by
  refine (used_s h).mono ?_
  rintro x w' ⟨rfl, rfl⟩
  exact ⟨by rw [hp], h⟩
theorem put_c {r : Int} {gs : List K4} (ky : K4) (s : Int) (hk : K4ok ky) (h : MSr W F w M mb root bu P k) (hb : k ≤ 100000) (hp : ME.put bu ky s P = (Q, gs, r)) : Calls Try.prog 17 #[ptr M, kyV ky, .int .i64 s] w fun x w' => ∃ v, x = .returned (.tuple #[v, .int .i64 r]) ∧ MSr W F w' M mb root bu Q (k + 1) := by
  refine (put_s ky s hk h hb).mono ?_
  rw [hp]
  rintro x w' ⟨v, rfl, -, hr⟩
  exact ⟨v, rfl, hr⟩
end
set_option maxHeartbeats 16000000 in
theorem sanity_any (w : World) : Calls Try.prog 10 #[] w fun x w' => x = .returned (.bool true) ∧ Below w.heap.size w w' := by
  go_enter Try.func10, Try.ntmps10
  go_wp2_with fail
  go_at_call 12
  refine (new_yes w 10 (by omega) (by omega)).mono ?_
  rintro x w1 ⟨M, mb, root, rfl, hm1, hb1⟩
  have s1 := (MS.new hm1 (by omega) (by omega)).here
  go_wp2_with fail
  go_at_call 21
  refine (puts_s0 1 4 s1 (by omega) (by omega) (by omega) (show ME.put 10 (kyE 1) 4 _ = ([mkE (kyE 1) 4 false], [], 0) by kernel_rfl)).mono ?_
  rintro x w2 ⟨rfl, s2⟩
  go_wp2_with fail
  go_at_call 21
  refine (puts_s0 2 3 s2 (by omega) (by omega) (by omega) (show ME.put 10 (kyE 2) 3 _ = ([mkE (kyE 1) 4 false, mkE (kyE 2) 3 false], [], 0) by kernel_rfl)).mono ?_
  rintro x w3 ⟨rfl, s3⟩
  go_wp2_with fail
  go_at_call 21
  refine (puts_s0 3 3 s3 (by omega) (by omega) (by omega) (show ME.put 10 (kyE 3) 3 _ = ([mkE (kyE 1) 4 false, mkE (kyE 2) 3 false, mkE (kyE 3) 3 false], [], 0) by kernel_rfl)).mono ?_
  rintro x w4 ⟨rfl, s4⟩
  go_wp2_with fail
  go_at_call 19
  refine (used_c s4 (show ME.sm _ = 10 by kernel_rfl)).mono ?_
  rintro x w5 ⟨rfl, s5⟩
  go_wp2_with fail
  go_at_call 13
  refine (key_any 1 _ (by omega) (by omega)).mono ?_
  rintro x w6 ⟨rfl, b6⟩
  have s6 := s5.below b6
  go_wp2_with fail
  go_at_call 14
  refine (use_c (kyE 1) (kyE_ok 1 (by omega) (by omega)) s6 (show ME.use (kyE 1) _ = ([mkE (kyE 2) 3 false, mkE (kyE 3) 3 false, mkE (kyE 1) 4 false], true) by kernel_rfl)).mono ?_
  rintro x w7 ⟨rfl, s7⟩
  go_wp2_with fail
  go_at_call 21
  refine (puts_s1 4 4 [2, 3] s7 (by omega) (by omega) (by omega) (by simp) (by simp) (show ME.put 10 (kyE 4) 4 _ = ([mkE (kyE 1) 4 false, mkE (kyE 4) 4 false], [2, 3].map kyE, 0) by kernel_rfl)).mono ?_
  rintro x w8 ⟨rfl, s8⟩
  go_wp2_with fail
  go_at_call 18
  refine (list_s s8 (by omega)).mono ?_
  rintro x w9 ⟨v9, rfl, row9, b9⟩
  have s9 := s8.below b9
  have rowl := row9
  go_wp2_with fail
  go_at_call 13
  refine (key_any 1 _ (by omega) (by omega)).mono ?_
  rintro x w10 ⟨rfl, b10⟩
  have s10 := s9.below b10
  have rowl2 := own_below rowl b10
  go_wp2_with fail
  go_at_call 13
  refine (key_any 4 _ (by omega) (by omega)).mono ?_
  rintro x w11 ⟨rfl, b11⟩
  have s11 := s10.below b11
  have rowl3 := own_below rowl2 b11
  go_wp2_with fail
  go_at_call 20
  refine (same_any (w11.alloc (.cells #[.int .i64 (kyE 1).1, .int .i64 (kyE 1).2.1, .int .i64 (kyE 1).2.2.1, .int .i64 (kyE 1).2.2.2, .int .i64 (kyE 4).1, .int .i64 (kyE 4).2.1, .int .i64 (kyE 4).2.2.1, .int .i64 (kyE 4).2.2.2] 34)) v9 (.slice (some ⟨w11.heap.size, 0, none⟩) 2 2) [kyE 1, kyE 4] [kyE 1, kyE 4] (own_srcN (own_below rowl3 (balloc (Below.refl _ _) _))) (srcN_new w11 (ME.kc [kyE 1, kyE 4]) 34 4 2 2 rfl) (by simp) (by simp)).mono ?_
  rintro x w12 ⟨rfl, nq, rfl⟩
  have s12 := (s11.below (balloc (Below.refl _ w11) (.cells #[.int .i64 (kyE 1).1, .int .i64 (kyE 1).2.1, .int .i64 (kyE 1).2.2.1, .int .i64 (kyE 1).2.2.2, .int .i64 (kyE 4).1, .int .i64 (kyE 4).2.1, .int .i64 (kyE 4).2.2.1, .int .i64 (kyE 4).2.2.2] 34))).below (w' := (w11.alloc (.cells #[.int .i64 (kyE 1).1, .int .i64 (kyE 1).2.1, .int .i64 (kyE 1).2.2.1, .int .i64 (kyE 1).2.2.2, .int .i64 (kyE 4).1, .int .i64 (kyE 4).2.1, .int .i64 (kyE 4).2.2.1, .int .i64 (kyE 4).2.2.2] 34)).drewN nq) ⟨rfl, rfl, rfl, Nat.le_refl _, fun _ _ => rfl⟩
  go_wp2_with fail
  go_at_call 19
  refine (used_c s12 (show ME.sm _ = 8 by kernel_rfl)).mono ?_
  rintro x w13 ⟨rfl, s13⟩
  go_wp2_with fail
  go_at_call 13
  refine (key_any 1 _ (by omega) (by omega)).mono ?_
  rintro x w14 ⟨rfl, b14⟩
  have s14 := s13.below b14
  go_wp2_with fail
  go_at_call 15
  refine (pin_c (kyE 1) true (kyE_ok 1 (by omega) (by omega)) s14 (show ME.pin (kyE 1) true _ = ([mkE (kyE 1) 4 true, mkE (kyE 4) 4 false], 0) by kernel_rfl)).mono ?_
  rintro x w15 ⟨rfl, s15⟩
  go_wp2_with fail
  go_at_call 13
  refine (key_any 2 _ (by omega) (by omega)).mono ?_
  rintro x w16 ⟨rfl, b16⟩
  have s16 := s15.below b16
  go_wp2_with fail
  go_at_call 17
  refine (put_c (kyE 2) 7 (kyE_ok 2 (by omega) (by omega)) s16 (by omega) (show ME.put 10 (kyE 2) 7 _ = ([mkE (kyE 1) 4 true, mkE (kyE 4) 4 false], [], 50) by kernel_rfl)).mono ?_
  rintro x w17 ⟨v17, rfl, s17⟩
  go_wp2_with fail
  go_at_call 21
  refine (puts_s1 2 6 [4] s17 (by omega) (by omega) (by omega) (by simp) (by simp) (show ME.put 10 (kyE 2) 6 _ = ([mkE (kyE 1) 4 true, mkE (kyE 2) 6 false], [4].map kyE, 0) by kernel_rfl)).mono ?_
  rintro x w18 ⟨rfl, s18⟩
  go_wp2_with fail
  go_at_call 13
  refine (key_any 1 _ (by omega) (by omega)).mono ?_
  rintro x w19 ⟨rfl, b19⟩
  have s19 := s18.below b19
  go_wp2_with fail
  go_at_call 16
  refine (drop_c (kyE 1) (kyE_ok 1 (by omega) (by omega)) s19 (show ME.drop (kyE 1) _ = ([mkE (kyE 1) 4 true, mkE (kyE 2) 6 false], 51) by kernel_rfl)).mono ?_
  rintro x w20 ⟨rfl, s20⟩
  go_wp2_with fail
  go_at_call 13
  refine (key_any 4 _ (by omega) (by omega)).mono ?_
  rintro x w21 ⟨rfl, b21⟩
  have s21 := s20.below b21
  go_wp2_with fail
  go_at_call 16
  refine (drop_c (kyE 4) (kyE_ok 4 (by omega) (by omega)) s21 (show ME.drop (kyE 4) _ = ([mkE (kyE 1) 4 true, mkE (kyE 2) 6 false], 5) by kernel_rfl)).mono ?_
  rintro x w22 ⟨rfl, s22⟩
  go_wp2_with fail
  go_at_call 13
  refine (key_any 1 _ (by omega) (by omega)).mono ?_
  rintro x w23 ⟨rfl, b23⟩
  have s23 := s22.below b23
  go_wp2_with fail
  go_at_call 15
  refine (pin_c (kyE 1) false (kyE_ok 1 (by omega) (by omega)) s23 (show ME.pin (kyE 1) false _ = ([mkE (kyE 1) 4 false, mkE (kyE 2) 6 false], 0) by kernel_rfl)).mono ?_
  rintro x w24 ⟨rfl, s24⟩
  go_wp2_with fail
  go_at_call 13
  refine (key_any 1 _ (by omega) (by omega)).mono ?_
  rintro x w25 ⟨rfl, b25⟩
  have s25 := s24.below b25
  go_wp2_with fail
  go_at_call 16
  refine (drop_c (kyE 1) (kyE_ok 1 (by omega) (by omega)) s25 (show ME.drop (kyE 1) _ = ([mkE (kyE 2) 6 false], 0) by kernel_rfl)).mono ?_
  rintro x w26 ⟨rfl, s26⟩
  go_wp2_with fail
  go_at_call 21
  refine (puts_s0 2 10 s26 (by omega) (by omega) (by omega) (show ME.put 10 (kyE 2) 10 _ = ([mkE (kyE 2) 10 false], [], 0) by kernel_rfl)).mono ?_
  rintro x w27 ⟨rfl, s27⟩
  go_wp2_with fail
  go_at_call 19
  refine (used_c s27 (show ME.sm _ = 10 by kernel_rfl)).mono ?_
  rintro x w28 ⟨rfl, s28⟩
  have hfin := s28.to_below hb1 (fun b hb => hb.1)
  have HF := Lib.hid hfin
  clear hfin
  go_wp2
  go_ret
  exact ⟨rfl, HF.out⟩
end Go.Proofs.Ytmnajongifdajaa
