/-
  Layer 6: the document's May, walked.
-/
import Derived.Test.YtokhchejkfhmmaaModR
namespace Go.Proofs.Ytokhchejkfhmmaa
open Go.RowKit

set_option maxRecDepth 100000 in
set_option maxHeartbeats 8000000 in
theorem rmay_any (m : Mo) (w : World) : Calls Try.prog 16 #[moV m] w fun e w' => e = .returned (.bool (mayM m)) ∧ Below w.heap.size w w' := by
  have hB : ∀ (x : Obj), Below w.heap.size w (w.alloc x) := fun x => (Below.refl _ w).alloc (Nat.le_refl _) _
  obtain ⟨q1, hq1⟩ : ∃ q, mouseN m.mouse = q := ⟨_, rfl⟩
  obtain ⟨q2, hq2⟩ : ∃ q, codingN m.coding = q := ⟨_, rfl⟩
  have R1 := Lib.hid (rmouse_any m.mouse)
  have R2 := Lib.hid (rcoding_any m.coding)
  rw [hq1] at R1
  rw [hq2] at R2
  have hm : mayM m = ((decide (m.mouse = 0) || q1) && ((decide (m.coding = 0) || q2) && (decide (0 ≤ m.other) && decide (m.other ≤ 2)))) := by
    unfold mayM
    rw [hq1, hq2]
    simp
  have HM := Lib.hid hm
  clear hq1 hq2 hm
  rw [moV]
  cases h1 : (m.mouse == 0) with
  | true =>
    have E1 := Lib.hid (show decide (m.mouse = 0) = true from decide_eq_true (eq_of_beq h1))
    cases h2 : (m.coding == 0) with
    | true =>
      have E2 := Lib.hid (show decide (m.coding = 0) = true from decide_eq_true (eq_of_beq h2))
      go_enter Try.func16, Try.ntmps16
      go_wp2_with fail
      all_goals
        go_ret
        refine ⟨ret_b ?_, hB _⟩
        rw [HM.out, E1.out, E2.out]
        first | (simp [*]; done) | (simp [*]; omega)
    | false =>
      have E2 := Lib.hid (show decide (m.coding = 0) = false from decide_eq_false (ne_of_beq_false h2))
      cases q2 with
      | true =>
        go_enter Try.func16, Try.ntmps16
        go_wp2_with fail
        refine (R2.out _).mono ?_
        rintro e w1 ⟨rfl, rfl⟩
        go_wp2_with fail
        all_goals
          go_ret
          refine ⟨ret_b ?_, hB _⟩
          rw [HM.out, E1.out, E2.out]
          first | (simp [*]; done) | (simp [*]; omega)
      | false =>
        go_enter Try.func16, Try.ntmps16
        go_wp2_with fail
        refine (R2.out _).mono ?_
        rintro e w1 ⟨rfl, rfl⟩
        go_wp2_with fail
        all_goals
          go_ret
          refine ⟨ret_b ?_, hB _⟩
          rw [HM.out, E1.out, E2.out]
          first | (simp [*]; done) | (simp [*]; omega)
  | false =>
    have E1 := Lib.hid (show decide (m.mouse = 0) = false from decide_eq_false (ne_of_beq_false h1))
    cases q1 with
    | false =>
      go_enter Try.func16, Try.ntmps16
      go_wp2_with fail
      refine (R1.out _).mono ?_
      rintro e w1 ⟨rfl, rfl⟩
      go_wp2_with fail
      all_goals
        go_ret
        refine ⟨ret_b ?_, hB _⟩
        rw [HM.out, E1.out]
        first | (simp [*]; done) | (simp [*]; omega)
    | true =>
      cases h2 : (m.coding == 0) with
      | true =>
        have E2 := Lib.hid (show decide (m.coding = 0) = true from decide_eq_true (eq_of_beq h2))
        go_enter Try.func16, Try.ntmps16
        go_wp2_with fail
        refine (R1.out _).mono ?_
        rintro e w1 ⟨rfl, rfl⟩
        go_wp2_with fail
        all_goals
          go_ret
          refine ⟨ret_b ?_, hB _⟩
          rw [HM.out, E1.out, E2.out]
          first | (simp [*]; done) | (simp [*]; omega)
      | false =>
        have E2 := Lib.hid (show decide (m.coding = 0) = false from decide_eq_false (ne_of_beq_false h2))
        cases q2 with
        | true =>
          go_enter Try.func16, Try.ntmps16
          go_wp2_with fail
          refine (R1.out _).mono ?_
          rintro e w1 ⟨rfl, rfl⟩
          go_wp2_with fail
          refine (R2.out _).mono ?_
          rintro e w1 ⟨rfl, rfl⟩
          go_wp2_with fail
          all_goals
            go_ret
            refine ⟨ret_b ?_, hB _⟩
            rw [HM.out, E1.out, E2.out]
            first | (simp [*]; done) | (simp [*]; omega)
        | false =>
          go_enter Try.func16, Try.ntmps16
          go_wp2_with fail
          refine (R1.out _).mono ?_
          rintro e w1 ⟨rfl, rfl⟩
          go_wp2_with fail
          refine (R2.out _).mono ?_
          rintro e w1 ⟨rfl, rfl⟩
          go_wp2_with fail
          all_goals
            go_ret
            refine ⟨ret_b ?_, hB _⟩
            rw [HM.out, E1.out, E2.out]
            first | (simp [*]; done) | (simp [*]; omega)
end Go.Proofs.Ytokhchejkfhmmaa
