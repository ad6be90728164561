/-
  Stage 20's law CapsAnswers, walked. Layer 3, walked: the document's last and bare.
-/
import Derived.Test.YtkkjahhilcjpgaaDoorG03
import Derived.Test.YtkkjahhilcjpgaaDoorG15
import Derived.Test.YtkkjahhilcjpgaaDoorG33
import Derived.Test.YtkkjahhilcjpgaaDoorG35
import Derived.Test.YtkkjahhilcjpgaaDoorG36
import Derived.Test.YtkkjahhilcjpgaaDoorG37
namespace Go.Proofs.YtkkjahhilcjpgaaDoor
open Go.RowKit
theorem ans_small (t : List UInt8) : (ansS t).params.length ≤ 4294967296 ∧ ∀ p ∈ (ansS t).params, p.length ≤ 4294967296 := by
 unfold ansS ansQ
 split <;> simp
set_option maxRecDepth 100000 in
set_option maxHeartbeats 16000000 in
theorem capsAnswers_walk (a0 : ByteArray) (ha : a0.size ≤ maxLen) (b0 : ByteArray) (hb : b0.size ≤ maxLen) (w : World) : Calls Tryd.prog 3 #[.string a0, .string b0] w fun e w' => e = .returned (.bool true) ∧ Below w.heap.size w w' := by
 obtain ⟨⟨n⟩⟩ := a0
 obtain ⟨⟨t⟩⟩ := b0
 have hnl : n.length ≤ maxLen := ha
 have htl : t.length ≤ maxLen := hb
 have HNL := Lib.hid hnl
 have HLO := Lib.hid (pLook20_any n hnl)
 clear ha hb
 by_cases h1 : 100 < n.length
 ·have v1 : (100 : Int) < (n.length : Int) := by omega
  go_enter Tryd.func3, Tryd.ntmps3
  go_wp2_with fail
  refine (capAwake _).mono ?_
  rintro e w1 ⟨rfl, hb1⟩
  go_wp2_with fail
  go_ret
  exact ⟨rfl, hb1⟩
 have v1 : ¬ ((100 : Int) < (n.length : Int)) := by omega
 by_cases h2 : 300 < t.length
 ·have v2 : (300 : Int) < (t.length : Int) := by omega
  go_enter Tryd.func3, Tryd.ntmps3
  go_wp2_with fail
  refine (capAwake _).mono ?_
  rintro e w1 ⟨rfl, hb1⟩
  go_wp2_with fail
  go_ret
  exact ⟨rfl, hb1⟩
 have v2 : ¬ ((300 : Int) < (t.length : Int)) := by omega
 have HAN := Lib.hid (pAnswer20_any t (by omega))
 have HRN := Lib.hid (rAnswer20_any t (by omega))
 have HSM : Hid (∀ (W : World) A c B d, RdP W A (ansS t).params → RdP W B (ansS t).params → Calls Tryd.prog 11 #[sqV (ansS t) A c, sqV (ansS t) B d] W fun e w' => e = .returned (.bool true) ∧ Below W.heap.size W w') := Lib.hid fun W A c B d h1 h2 =>
  rsame_any (ansS t) (ansS t) A B c d true W ((sameB_iff _ _).2 rfl) (ans_small t).1 (ans_small t).1 (ans_small t).2 (ans_small t).2 h1 h2
 obtain ⟨V, hV⟩ : ∃ V, capV n = V := ⟨_, rfl⟩
 obtain ⟨q, hq⟩ : ∃ q, (lookC n).isSome = q := ⟨_, rfl⟩
 have HRL := Lib.hid (rLook20_any n)
 rw [hV, hq] at HLO HRL
 obtain ⟨S, hS⟩ : ∃ S, ansS t = S := ⟨_, rfl⟩
 rw [hS] at HAN HRN HSM
 clear h1 h2 hV hq hS hnl htl
 go_enter Tryd.func3, Tryd.ntmps3
 go_wp2_with fail
 refine (capAwake _).mono ?_
 rintro e w1 ⟨rfl, hb1⟩
 go_wp2_with fail
 refine (HLO.out _).mono ?_
 rintro e w2 ⟨rfl, hb2⟩
 have hB2 := hb1.trans (hb2.mono hb1.size)
 go_wp2_with fail
 refine (HRL.out _).mono ?_
 rintro e w3 ⟨rfl, hb3⟩
 have hB3 := hB2.trans (hb3.mono hB2.size)
 clear hb1 hb2 hb3 hB2
 go_wp2_with fail
 refine (HAN.out _).mono ?_
 rintro e w4 ⟨A, c, rfl, hr4, hb4⟩
 have hB4 := hB3.trans (hb4.mono hB3.size)
 clear hb4 hB3
 go_wp2_with fail
 refine (HRN.out _).mono ?_
 rintro e w5 ⟨B, d, rfl, hr5, hb5⟩
 have hB5 := hB4.trans (hb5.mono hB4.size)
 replace hr4 := hr4.below hb5
 clear hb5 hB4
 go_wp2_with fail
 refine (HSM.out _ _ _ _ _ hr4 hr5).mono ?_
 rintro e w6 ⟨rfl, hb6⟩
 have hB6 := hB5.trans (hb6.mono hB5.size)
 go_wp2_with fail
 go_ret
 exact ⟨rfl, hB6⟩
set_option maxRecDepth 100000 in
set_option maxHeartbeats 4000000 in
theorem last_any (s : Sq) (A : Option Addr) (c : Nat) (q : Bool) (w : World) (hq : lastOk s = q) :
 Calls Tryd.prog 30 #[sqV s A c] w fun e w' => e = .returned (.bool q) ∧ Below w.heap.size w w' := by
 obtain ⟨q1, q5, q4, q0⟩ := last_q hq
 clear hq
 obtain ⟨k, pv, ps, it, f, d⟩ := s
 dsimp only at q1 q5 q4 q0
 have hf := f.toNat_lt
 obtain ⟨n, hn⟩ : ∃ n, f.toNat = n := ⟨_, rfl⟩
 rw [hn] at q1 q5 q4 hf
 unfold sqV
 dsimp only
 rw [hn]
 clear hn
 by_cases k1 : k = 1 ∨ k = 2 ∨ k = 3
 ·have E := Lib.hid (q1 k1)
  clear q1 q5 q4 q0
  rcases k1 with rfl | rfl | rfl
  all_goals
   go_enter Tryd.func30, Tryd.ntmps30
   go_wp2
   all_goals
    go_ret
    refine ⟨ret_b ?_, (Below.refl _ _).alloc (Nat.le_refl _) _⟩
    rw [E.out, Bool.eq_iff_iff]
    simp only [Bool.and_eq_true, decide_eq_true_eq, Bool.false_eq_true, false_iff]
    omega
 ·by_cases k5 : k = 5
  ·obtain ⟨e1, e2⟩ := q5 k5
   subst k5
   clear q1 q4 q0 k1 q5
   by_cases hr : n < 48 ∨ 126 < n
   ·have E := Lib.hid (e1 hr)
    clear e1 e2
    rcases hr with hr | hr
    all_goals
     go_enter Tryd.func30, Tryd.ntmps30
     go_wp2
     go_ret
     exact ⟨ret_b E.out.symm, (Below.refl _ _).alloc (Nat.le_refl _) _⟩
   ·have n0 : 48 ≤ n := by omega
    have n1 : n ≤ 126 := by omega
    obtain ⟨e3, e4⟩ := e2 n0 n1
    clear e1 e2 hr
    cases it with
    | cons x it =>
      have E := Lib.hid (e3 (by simp))
      clear e3 e4
      go_enter Tryd.func30, Tryd.ntmps30
      go_wp2
      go_ret
      exact ⟨ret_b E.out.symm, (Below.refl _ _).alloc (Nat.le_refl _) _⟩
    | nil =>
      have E := Lib.hid (e4 rfl)
      clear e3 e4
      go_enter Tryd.func30, Tryd.ntmps30
      go_wp2
      all_goals
       go_ret
       refine ⟨ret_b ?_, (Below.refl _ _).alloc (Nat.le_refl _) _⟩
       rw [E.out, Bool.eq_iff_iff]
       simp
       omega
  ·by_cases k4 : k = 4
   ·have E := Lib.hid (q4 k4)
    subst k4
    clear q1 q4 q0 k1 q5 k5
    go_enter Tryd.func30, Tryd.ntmps30
    go_wp2
    all_goals
     go_ret
     refine ⟨ret_b ?_, (Below.refl _ _).alloc (Nat.le_refl _) _⟩
     rw [E.out, Bool.eq_iff_iff]
     simp
   ·have E := Lib.hid (q0 (by omega))
    have t1 : (k == 1) = false := beq_false_of_ne (by omega)
    have t2 : (k == 2) = false := beq_false_of_ne (by omega)
    have t3 : (k == 3) = false := beq_false_of_ne (by omega)
    have t4 : (k == 4) = false := beq_false_of_ne k4
    have t5 : (k == 5) = false := beq_false_of_ne k5
    clear q1 q4 q0 k1 q5 k5 k4
    go_enter Tryd.func30, Tryd.ntmps30
    go_wp2
    go_ret
    exact ⟨ret_b E.out.symm, (Below.refl _ _).alloc (Nat.le_refl _) _⟩
end Go.Proofs.YtkkjahhilcjpgaaDoor
