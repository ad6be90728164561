/-
  Stage 18, the landed style, walked: anyOf, colourOf. Stage 18: styles compared.
-/
import Derived.Test.YthcafgningpdnaaDoorG11
import Derived.Test.YthcafgningpdnaaDoorG12
import Derived.BigQuiet
namespace Go.Proofs.YthcafgningpdnaaDoor
open Go.RowKit
theorem any_len (f : List Int) (t : Int) (h2 : f.length ≠ 2) (h5 : f.length ≠ 5) : anyL f t = t := by
 unfold anyL
 split
 ·simp at h2
 ·simp at h5
 ·rfl
set_option maxRecDepth 100000 in
set_option maxHeartbeats 8000000 in
theorem sany2 (A : Option Addr) (f : List Int) (k c : Nat) (hk : f.length = k) (t : Int) (w : World) (hr : Rd w A (is_ f)) (h2 : k = 2) : Calls Tryd.prog 53 #[.slice A k c, .int .i64 t] w fun e w' => e = .returned (.int .i64 (anyL f t)) ∧ Below w.heap.size w w' := by
 ·subst h2
  obtain ⟨a, n, rfl⟩ : ∃ a n, f = [a, n] := by
   match f, hk with
   | [a, n], _ => exact ⟨a, n, rfl⟩
  obtain ⟨b, o, rfl, hb, hc⟩ := hr.int_at (by simp)
  have HC : Hid (∀ W, Below w.heap.size w W → W.cell? ⟨b, o, none⟩ = some (.int .i64 a) ∧ W.cell? ⟨b, o + 1, none⟩ = some (.int .i64 n)) := Lib.hid fun W hW => ⟨(hW.cell (p := ⟨b, o, none⟩) hb).trans (hc 0 (by simp)), (hW.cell (p := ⟨b, o + 1, none⟩) hb).trans (hc 1 (by simp))⟩
  obtain ⟨q1, h1⟩ : ∃ q, byteY n = q := ⟨_, rfl⟩
  have hl : anyL [a, n] t = if a = 5 ∧ q1 = true then n else t := by rw [← h1]; rfl
  have HL := Lib.hid hl
  have H1 := Lib.hid h1
  have hB0 := Below.refl w.heap.size w
  clear hc hk h1 hl hr
  obtain ⟨c0, c1⟩ := HC.out _ hB0
  by_cases h5 : a = 5
  ·subst h5
   cases q1 with
   | true =>
     have HL := Lib.hid (HL.out.trans (if_pos (by simp)))
     go_enter Tryd.func53, Tryd.ntmps53
     go_wp2_with fail
     refine (sisByte_any n _ H1.out _).mono ?_
     rintro e w1 ⟨rfl, hb1⟩
     have hB1 := hB0.trans (hb1.mono hB0.size)
     clear hb1 c0 c1
     obtain ⟨c0, c1⟩ := HC.out _ hB1
     go_wp2_with fail
     go_ret
     exact ⟨ret_i HL.out.symm, hB1⟩
   | false =>
     have HL := Lib.hid (HL.out.trans (if_neg (by simp)))
     go_enter Tryd.func53, Tryd.ntmps53
     go_wp2_with fail
     refine (sisByte_any n _ H1.out _).mono ?_
     rintro e w1 ⟨rfl, hb1⟩
     have hB1 := hB0.trans (hb1.mono hB0.size)
     clear hb1 c0 c1
     obtain ⟨c0, c1⟩ := HC.out _ hB1
     go_wp2_with fail
     go_ret
     exact ⟨ret_i HL.out.symm, hB1⟩
  ·have HL := Lib.hid (show anyL [a, n] t = t by rw [HL.out, if_neg (fun h => h5 h.1)])
   go_enter Tryd.func53, Tryd.ntmps53
   go_wp2_with fail
   go_ret
   exact ⟨ret_i HL.out.symm, Below.refl _ _⟩
set_option maxRecDepth 100000 in
set_option maxHeartbeats 8000000 in
theorem sanyo (A : Option Addr) (f : List Int) (k c : Nat) (hk : f.length = k) (t : Int) (w : World) (_hr : Rd w A (is_ f)) (h2 : k ≠ 2) (h3 : k ≠ 5) : Calls Tryd.prog 53 #[.slice A k c, .int .i64 t] w fun e w' => e = .returned (.int .i64 (anyL f t)) ∧ Below w.heap.size w w' := by
 have HL := Lib.hid (any_len f t (by omega) (by omega))
 have g2 : ¬ ((k : Int) = 2) := by omega
 have g5 : ¬ ((k : Int) = 5) := by omega
 clear hk h2 h3
 go_enter Tryd.func53, Tryd.ntmps53
 go_wp2_with fail
 go_ret
 exact ⟨ret_i HL.out.symm, Below.refl _ _⟩
theorem sy_same (a0 a1 a2 a3 a4 a5 a6 : Bool) (a7 a8 a9 : Int) (p q : Operand) (w : World) : (do eqGuard .eql 23 p q (.agg #[.bool a0, .bool a1, .bool a2, .bool a3, .bool a4, .bool a5, .bool a6, .int .i64 a7, .int .i64 a8, .int .i64 a9]) (.agg #[.bool a0, .bool a1, .bool a2, .bool a3, .bool a4, .bool a5, .bool a6, .int .i64 a7, .int .i64 a8, .int .i64 a9]); binOp .eql 23 (.agg #[.bool a0, .bool a1, .bool a2, .bool a3, .bool a4, .bool a5, .bool a6, .int .i64 a7, .int .i64 a8, .int .i64 a9]) (.agg #[.bool a0, .bool a1, .bool a2, .bool a3, .bool a4, .bool a5, .bool a6, .int .i64 a7, .int .i64 a8, .int .i64 a9]) : Sem Value).run Tryd.prog w = .ok (.bool true) w := by
 go_simp
theorem sy_diff (a0 a1 a2 a3 a4 a5 a6 b0 b1 b2 b3 b4 b5 b6 : Bool) (a7 a8 a9 b7 b8 b9 : Int) (h : ¬ (a0 = b0 ∧ a1 = b1 ∧ a2 = b2 ∧ a3 = b3 ∧ a4 = b4 ∧ a5 = b5 ∧ a6 = b6 ∧ a7 = b7 ∧ a8 = b8 ∧ a9 = b9)) (p q : Operand) (w : World) : (do eqGuard .eql 23 p q (.agg #[.bool a0, .bool a1, .bool a2, .bool a3, .bool a4, .bool a5, .bool a6, .int .i64 a7, .int .i64 a8, .int .i64 a9]) (.agg #[.bool b0, .bool b1, .bool b2, .bool b3, .bool b4, .bool b5, .bool b6, .int .i64 b7, .int .i64 b8, .int .i64 b9]); binOp .eql 23 (.agg #[.bool a0, .bool a1, .bool a2, .bool a3, .bool a4, .bool a5, .bool a6, .int .i64 a7, .int .i64 a8, .int .i64 a9]) (.agg #[.bool b0, .bool b1, .bool b2, .bool b3, .bool b4, .bool b5, .bool b6, .int .i64 b7, .int .i64 b8, .int .i64 b9]) : Sem Value).run Tryd.prog w = .ok (.bool false) w := by
 by_cases h0 : a0 = b0
 ·by_cases h1 : a1 = b1
  ·by_cases h2 : a2 = b2
   ·by_cases h3 : a3 = b3
    ·by_cases h4 : a4 = b4
     ·by_cases h5 : a5 = b5
      ·by_cases h6 : a6 = b6
       ·by_cases h7 : a7 = b7
        ·by_cases h8 : a8 = b8
         ·by_cases h9 : a9 = b9
          ·exact absurd ⟨h0, h1, h2, h3, h4, h5, h6, h7, h8, h9⟩ h
          ·subst h0 h1 h2 h3 h4 h5 h6 h7 h8
           clear h
           have t : (a9 == b9) = false := beq_false_of_ne h9
           go_simp
         ·subst h0 h1 h2 h3 h4 h5 h6 h7
          clear h
          have t : (a8 == b8) = false := beq_false_of_ne h8
          go_simp
        ·subst h0 h1 h2 h3 h4 h5 h6
         clear h
         have t : (a7 == b7) = false := beq_false_of_ne h7
         go_simp
       ·subst h0 h1 h2 h3 h4 h5
        clear h
        have t : (a6 == b6) = false := beq_false_of_ne h6
        go_simp
      ·subst h0 h1 h2 h3 h4
       clear h
       have t : (a5 == b5) = false := beq_false_of_ne h5
       go_simp
     ·subst h0 h1 h2 h3
      clear h
      have t : (a4 == b4) = false := beq_false_of_ne h4
      go_simp
    ·subst h0 h1 h2
     clear h
     have t : (a3 == b3) = false := beq_false_of_ne h3
     go_simp
   ·subst h0 h1
    clear h
    have t : (a2 == b2) = false := beq_false_of_ne h2
    go_simp
  ·subst h0
   clear h
   have t : (a1 == b1) = false := beq_false_of_ne h1
   go_simp
 ·clear h
  have t : (a0 == b0) = false := beq_false_of_ne h0
  go_simp
theorem sy_eql (s t : Sy) (r : Bool) (h : r = true ↔ s = t) (p q : Operand) (w : World) : (do eqGuard .eql 23 p q (syV s) (syV t); binOp .eql 23 (syV s) (syV t) : Sem Value).run Tryd.prog w = .ok (.bool r) w := by
 obtain ⟨a0, a1, a2, a3, a4, a5, a6, a7, a8, a9⟩ := s
 obtain ⟨b0, b1, b2, b3, b4, b5, b6, b7, b8, b9⟩ := t
 cases r with
 | true =>
   have e := h.1 rfl
   simp only [Sy.mk.injEq] at e
   obtain ⟨rfl, rfl, rfl, rfl, rfl, rfl, rfl, rfl, rfl, rfl⟩ := e
   exact sy_same _ _ _ _ _ _ _ _ _ _ _ _ _
 | false =>
   exact sy_diff _ _ _ _ _ _ _ _ _ _ _ _ _ _ _ _ _ _ _ _ (fun ⟨e0, e1, e2, e3, e4, e5, e6, e7, e8, e9⟩ => by
    have := h.2 (by subst e0 e1 e2 e3 e4 e5 e6 e7 e8 e9; rfl)
    cases this) _ _ _
end Go.Proofs.YthcafgningpdnaaDoor
