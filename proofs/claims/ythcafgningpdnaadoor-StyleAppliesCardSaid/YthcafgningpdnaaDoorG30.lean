/-
  Stage 18, the document's style, walked: colour, May, within, Usual, flag.
-/
import Derived.Test.YthcafgningpdnaaDoorG08
namespace Go.Proofs.YthcafgningpdnaaDoor
open Go.RowKit
theorem rcolour_any (n : Int) (q : Bool) (hq : colY n = q) (w : World) : Calls Tryd.prog 29 #[.int .i64 n] w fun e w' => e = .returned (.bool q) ∧ Below w.heap.size w w' := by
 unfold colY at hq
 by_cases h : -1 ≤ n
 ·rw [decide_eq_true h, Bool.true_and] at hq
  have HQ := Lib.hid hq
  clear hq
  go_enter Tryd.func29, Tryd.ntmps29
  go_wp2_with fail
  go_ret
  exact ⟨ret_bq HQ.out, Below.refl _ _⟩
 ·rw [decide_eq_false h, Bool.false_and] at hq
  subst hq
  go_enter Tryd.func29, Tryd.ntmps29
  go_wp2_with fail
  go_ret
  exact ⟨rfl, Below.refl _ _⟩
theorem rwithin_any (n : Int) (q : Bool) (hq : byteY n = q) (w : World) : Calls Tryd.prog 59 #[.int .i64 n] w fun e w' => e = .returned (.bool q) ∧ Below w.heap.size w w' := by
 unfold byteY at hq
 by_cases h : 0 ≤ n
 ·rw [decide_eq_true h, Bool.true_and] at hq
  have HQ := Lib.hid hq
  clear hq
  go_enter Tryd.func59, Tryd.ntmps59
  go_wp2_with fail
  go_ret
  exact ⟨ret_bq HQ.out, Below.refl _ _⟩
 ·rw [decide_eq_false h, Bool.false_and] at hq
  subst hq
  go_enter Tryd.func59, Tryd.ntmps59
  go_wp2_with fail
  go_ret
  exact ⟨rfl, Below.refl _ _⟩
set_option maxRecDepth 100000 in
set_option maxHeartbeats 8000000 in
theorem rmay18_any (s : Sy) (q : Bool) (hq : mayY s = q) (w : World) : Calls Tryd.prog 13 #[syV s] w fun e w' => e = .returned (.bool q) ∧ Below w.heap.size w w' := by
 obtain ⟨s0, s1, s2, s3, s4, s5, s6, u, x, y⟩ := s
 obtain ⟨q2, h2⟩ : ∃ q, colY x = q := ⟨_, rfl⟩
 obtain ⟨q3, h3⟩ : ∃ q, colY y = q := ⟨_, rfl⟩
 unfold mayY at hq
 simp only [h2, h3] at hq
 have H2 := Lib.hid h2
 have H3 := Lib.hid h3
 clear h2 h3
 unfold syV
 simp only
 have k0 := Blk.new w 23 #[.bool s0, .bool s1, .bool s2, .bool s3, .bool s4, .bool s5, .bool s6, .int .i64 u, .int .i64 x, .int .i64 y]
 have HB0 : Below w.heap.size w (w.alloc (.cells #[.bool s0, .bool s1, .bool s2, .bool s3, .bool s4, .bool s5, .bool s6, .int .i64 u, .int .i64 x, .int .i64 y] 23)) := (Below.refl _ w).alloc (Nat.le_refl _) _
 have c7 := k0.cell 7
 have c8 := k0.cell 8
 by_cases g0 : 0 ≤ u
 ·by_cases g1 : u ≤ 5
  ·rw [decide_eq_true g0, decide_eq_true g1, Bool.true_and, Bool.true_and] at hq
   subst hq
   go_enter Tryd.func13, Tryd.ntmps13
   go_wp2_with fail
   refine (rcolour_any x q2 H2.out _).mono ?_
   rintro e w2 ⟨rfl, hb2⟩
   have hB2 := HB0.trans (hb2.mono HB0.size)
   have k2 := k0.below hb2 k0.lt
   clear c7 c8
   have c9 := k2.cell 9
   cases q2 with
   | false =>
     go_wp2_with fail
     go_ret
     exact ⟨rfl, hB2⟩
   | true =>
     go_wp2_with fail
     refine (rcolour_any y q3 H3.out _).mono ?_
     rintro e w3 ⟨rfl, hb3⟩
     have hB3 := hB2.trans (hb3.mono hB2.size)
     go_wp2_with fail
     go_ret
     exact ⟨rfl, hB3⟩
  ·rw [decide_eq_true g0, decide_eq_false g1, Bool.and_false, Bool.false_and, Bool.false_and] at hq
   subst hq
   go_enter Tryd.func13, Tryd.ntmps13
   go_wp2_with fail
   go_ret
   exact ⟨rfl, HB0⟩
 ·rw [decide_eq_false g0, Bool.false_and, Bool.false_and, Bool.false_and] at hq
  subst hq
  go_enter Tryd.func13, Tryd.ntmps13
  go_wp2_with fail
  go_ret
  exact ⟨rfl, HB0⟩
set_option maxRecDepth 100000 in
set_option maxHeartbeats 8000000 in
theorem rusual_any (w : World) : Calls Tryd.prog 47 #[] w fun e w' => e = .returned (.agg #[.bool false, .bool false, .bool false, .bool false, .bool false, .bool false, .bool false, .int .i64 0, .int .i64 (-1), .int .i64 (-1)]) ∧ Below w.heap.size w w' := by
 have HB0 : Below w.heap.size w (w.alloc (.cells #[.bool false, .bool false, .bool false, .bool false, .bool false, .bool false, .bool false, .int .i64 0, .int .i64 (-1), .int .i64 (-1)] 23)) := (Below.refl _ w).alloc (Nat.le_refl _) _
 go_enter Tryd.func47, Tryd.ntmps47
 go_wp2_with fail
 refine bodyPost_ret (v := .agg #[.bool false, .bool false, .bool false, .bool false, .bool false, .bool false, .bool false, .int .i64 0, .int .i64 (-1), .int .i64 (-1)]) (by simp [results, Tryd.results47, go_sem]) rfl ?_
 exact ⟨rfl, HB0⟩
set_option maxRecDepth 100000 in
set_option maxHeartbeats 8000000 in
theorem rflag_any18 (s : Sy) (n : Int) (w : World) : Calls Tryd.prog 49 #[syV s, .int .i64 n] w fun e w' => e = .returned (syV (flagY s n)) ∧ Below w.heap.size w w' := by
 obtain ⟨s0, s1, s2, s3, s4, s5, s6, s7, s8, s9⟩ := s
 by_cases h1 : n = 1
 ·subst h1
  rw [show flagY ⟨s0, s1, s2, s3, s4, s5, s6, s7, s8, s9⟩ 1 = ⟨true, s1, s2, s3, s4, s5, s6, s7, s8, s9⟩ from rfl]
  unfold syV
  simp only
  have HB0 : Below w.heap.size w ((w.alloc (.cells #[.bool true, .bool s1, .bool s2, .bool s3, .bool s4, .bool s5, .bool s6, .int .i64 s7, .int .i64 s8, .int .i64 s9] 23)).alloc (.cells #[.bool true, .bool s1, .bool s2, .bool s3, .bool s4, .bool s5, .bool s6, .int .i64 s7, .int .i64 s8, .int .i64 s9] 23)) := ((Below.refl _ w).alloc (Nat.le_refl _) _).alloc (by simp) _
  go_enter Tryd.func49, Tryd.ntmps49
  go_wp2_with fail
  refine bodyPost_ret (v := .agg #[.bool true, .bool s1, .bool s2, .bool s3, .bool s4, .bool s5, .bool s6, .int .i64 s7, .int .i64 s8, .int .i64 s9]) (by simp [results, Tryd.results49, go_sem]) rfl ?_
  exact ⟨rfl, HB0⟩
 by_cases h2 : n = 2
 ·subst h2
  rw [show flagY ⟨s0, s1, s2, s3, s4, s5, s6, s7, s8, s9⟩ 2 = ⟨s0, true, s2, s3, s4, s5, s6, s7, s8, s9⟩ from rfl]
  unfold syV
  simp only
  have HB0 : Below w.heap.size w ((w.alloc (.cells #[.bool s0, .bool true, .bool s2, .bool s3, .bool s4, .bool s5, .bool s6, .int .i64 s7, .int .i64 s8, .int .i64 s9] 23)).alloc (.cells #[.bool s0, .bool true, .bool s2, .bool s3, .bool s4, .bool s5, .bool s6, .int .i64 s7, .int .i64 s8, .int .i64 s9] 23)) := ((Below.refl _ w).alloc (Nat.le_refl _) _).alloc (by simp) _
  go_enter Tryd.func49, Tryd.ntmps49
  go_wp2_with fail
  refine bodyPost_ret (v := .agg #[.bool s0, .bool true, .bool s2, .bool s3, .bool s4, .bool s5, .bool s6, .int .i64 s7, .int .i64 s8, .int .i64 s9]) (by simp [results, Tryd.results49, go_sem]) rfl ?_
  exact ⟨rfl, HB0⟩
 by_cases h3 : n = 3
 ·subst h3
  rw [show flagY ⟨s0, s1, s2, s3, s4, s5, s6, s7, s8, s9⟩ 3 = ⟨s0, s1, true, s3, s4, s5, s6, s7, s8, s9⟩ from rfl]
  unfold syV
  simp only
  have HB0 : Below w.heap.size w ((w.alloc (.cells #[.bool s0, .bool s1, .bool true, .bool s3, .bool s4, .bool s5, .bool s6, .int .i64 s7, .int .i64 s8, .int .i64 s9] 23)).alloc (.cells #[.bool s0, .bool s1, .bool true, .bool s3, .bool s4, .bool s5, .bool s6, .int .i64 s7, .int .i64 s8, .int .i64 s9] 23)) := ((Below.refl _ w).alloc (Nat.le_refl _) _).alloc (by simp) _
  go_enter Tryd.func49, Tryd.ntmps49
  go_wp2_with fail
  refine bodyPost_ret (v := .agg #[.bool s0, .bool s1, .bool true, .bool s3, .bool s4, .bool s5, .bool s6, .int .i64 s7, .int .i64 s8, .int .i64 s9]) (by simp [results, Tryd.results49, go_sem]) rfl ?_
  exact ⟨rfl, HB0⟩
 by_cases h5 : n = 5
 ·subst h5
  rw [show flagY ⟨s0, s1, s2, s3, s4, s5, s6, s7, s8, s9⟩ 5 = ⟨s0, s1, s2, true, s4, s5, s6, s7, s8, s9⟩ from rfl]
  unfold syV
  simp only
  have HB0 : Below w.heap.size w ((w.alloc (.cells #[.bool s0, .bool s1, .bool s2, .bool true, .bool s4, .bool s5, .bool s6, .int .i64 s7, .int .i64 s8, .int .i64 s9] 23)).alloc (.cells #[.bool s0, .bool s1, .bool s2, .bool true, .bool s4, .bool s5, .bool s6, .int .i64 s7, .int .i64 s8, .int .i64 s9] 23)) := ((Below.refl _ w).alloc (Nat.le_refl _) _).alloc (by simp) _
  go_enter Tryd.func49, Tryd.ntmps49
  go_wp2_with fail
  refine bodyPost_ret (v := .agg #[.bool s0, .bool s1, .bool s2, .bool true, .bool s4, .bool s5, .bool s6, .int .i64 s7, .int .i64 s8, .int .i64 s9]) (by simp [results, Tryd.results49, go_sem]) rfl ?_
  exact ⟨rfl, HB0⟩
 by_cases h7 : n = 7
 ·subst h7
  rw [show flagY ⟨s0, s1, s2, s3, s4, s5, s6, s7, s8, s9⟩ 7 = ⟨s0, s1, s2, s3, true, s5, s6, s7, s8, s9⟩ from rfl]
  unfold syV
  simp only
  have HB0 : Below w.heap.size w ((w.alloc (.cells #[.bool s0, .bool s1, .bool s2, .bool s3, .bool true, .bool s5, .bool s6, .int .i64 s7, .int .i64 s8, .int .i64 s9] 23)).alloc (.cells #[.bool s0, .bool s1, .bool s2, .bool s3, .bool true, .bool s5, .bool s6, .int .i64 s7, .int .i64 s8, .int .i64 s9] 23)) := ((Below.refl _ w).alloc (Nat.le_refl _) _).alloc (by simp) _
  go_enter Tryd.func49, Tryd.ntmps49
  go_wp2_with fail
  refine bodyPost_ret (v := .agg #[.bool s0, .bool s1, .bool s2, .bool s3, .bool true, .bool s5, .bool s6, .int .i64 s7, .int .i64 s8, .int .i64 s9]) (by simp [results, Tryd.results49, go_sem]) rfl ?_
  exact ⟨rfl, HB0⟩
 by_cases h8 : n = 8
 ·subst h8
  rw [show flagY ⟨s0, s1, s2, s3, s4, s5, s6, s7, s8, s9⟩ 8 = ⟨s0, s1, s2, s3, s4, true, s6, s7, s8, s9⟩ from rfl]
  unfold syV
  simp only
  have HB0 : Below w.heap.size w ((w.alloc (.cells #[.bool s0, .bool s1, .bool s2, .bool s3, .bool s4, .bool true, .bool s6, .int .i64 s7, .int .i64 s8, .int .i64 s9] 23)).alloc (.cells #[.bool s0, .bool s1, .bool s2, .bool s3, .bool s4, .bool true, .bool s6, .int .i64 s7, .int .i64 s8, .int .i64 s9] 23)) := ((Below.refl _ w).alloc (Nat.le_refl _) _).alloc (by simp) _
  go_enter Tryd.func49, Tryd.ntmps49
  go_wp2_with fail
  refine bodyPost_ret (v := .agg #[.bool s0, .bool s1, .bool s2, .bool s3, .bool s4, .bool true, .bool s6, .int .i64 s7, .int .i64 s8, .int .i64 s9]) (by simp [results, Tryd.results49, go_sem]) rfl ?_
  exact ⟨rfl, HB0⟩
 by_cases h9 : n = 9
 ·subst h9
  rw [show flagY ⟨s0, s1, s2, s3, s4, s5, s6, s7, s8, s9⟩ 9 = ⟨s0, s1, s2, s3, s4, s5, true, s7, s8, s9⟩ from rfl]
  unfold syV
  simp only
  have HB0 : Below w.heap.size w ((w.alloc (.cells #[.bool s0, .bool s1, .bool s2, .bool s3, .bool s4, .bool s5, .bool true, .int .i64 s7, .int .i64 s8, .int .i64 s9] 23)).alloc (.cells #[.bool s0, .bool s1, .bool s2, .bool s3, .bool s4, .bool s5, .bool true, .int .i64 s7, .int .i64 s8, .int .i64 s9] 23)) := ((Below.refl _ w).alloc (Nat.le_refl _) _).alloc (by simp) _
  go_enter Tryd.func49, Tryd.ntmps49
  go_wp2_with fail
  refine bodyPost_ret (v := .agg #[.bool s0, .bool s1, .bool s2, .bool s3, .bool s4, .bool s5, .bool true, .int .i64 s7, .int .i64 s8, .int .i64 s9]) (by simp [results, Tryd.results49, go_sem]) rfl ?_
  exact ⟨rfl, HB0⟩
 rw [show flagY ⟨s0, s1, s2, s3, s4, s5, s6, s7, s8, s9⟩ n = ⟨s0, s1, s2, s3, s4, s5, s6, s7, s8, s9⟩ by unfold flagY; rw [if_neg h1, if_neg h2, if_neg h3, if_neg h5, if_neg h7, if_neg h8, if_neg h9]]
 unfold syV
 simp only
 have HB0 : Below w.heap.size w ((w.alloc (.cells #[.bool s0, .bool s1, .bool s2, .bool s3, .bool s4, .bool s5, .bool s6, .int .i64 s7, .int .i64 s8, .int .i64 s9] 23)).alloc (.cells #[.bool s0, .bool s1, .bool s2, .bool s3, .bool s4, .bool s5, .bool s6, .int .i64 s7, .int .i64 s8, .int .i64 s9] 23)) := ((Below.refl _ w).alloc (Nat.le_refl _) _).alloc (by simp) _
 go_enter Tryd.func49, Tryd.ntmps49
 go_wp2_with fail
 refine bodyPost_ret (v := .agg #[.bool s0, .bool s1, .bool s2, .bool s3, .bool s4, .bool s5, .bool s6, .int .i64 s7, .int .i64 s8, .int .i64 s9]) (by simp [results, Tryd.results49, go_sem]) rfl ?_
 exact ⟨rfl, HB0⟩
end Go.Proofs.YthcafgningpdnaaDoor
