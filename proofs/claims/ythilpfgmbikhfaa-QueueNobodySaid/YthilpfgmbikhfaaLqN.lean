/-
  Layer 4: the walk of QueueNobody.
-/
import Derived.Test.YthilpfgmbikhfaaQuW
namespace Go.Proofs.Ythilpfgmbikhfaa
open Go.RowKit

set_option maxRecDepth 100000 in
set_option maxHeartbeats 8000000 in
theorem queueNobody_walk (A : Option Addr) (l : List UInt8) (c : Nat) (_hk : l.length ≤ c) (n : Int) (_lo : -9223372036854775808 ≤ n) (_hi2 : n ≤ 9223372036854775807) (w : World) (hr : Rd w A (bs l)) :
    Calls Try.prog 7 #[.slice A l.length c, .int .i64 n] w fun e w' => e = .returned (.bool true) ∧ Below w.heap.size w w' := by
  obtain ⟨i0, hi, hz0, hz1, hz2⟩ := u8_parts
  obtain ⟨m, hm⟩ : ∃ m, l.length = m := ⟨_, rfl⟩
  rw [hm]
  have HM := Lib.hid hm
  clear hm _hk _lo
  by_cases h200 : m ≤ 200
  · obtain ⟨N, hN⟩ : ∃ N : Nat, N = 64 := ⟨_, rfl⟩
    obtain ⟨z, hz⟩ : ∃ z : List UInt8, z = List.replicate N 0 := ⟨_, rfl⟩
    have HZ := Lib.hid hz
    have HN := Lib.hid hN
    have HL := Lib.hid (show z.length = 64 by rw [hz, List.length_replicate, hN])
    have H64 := Lib.hid (show (64 : Int) = (N : Int) by omega)
    clear hz hN
    obtain ⟨b, hb⟩ : ∃ b, decide (m = 0) = b := ⟨_, rfl⟩
    have hroom : hasRoom 64 z l = b := by
      unfold hasRoom
      rw [HL.out, HM.out, ← hb, Bool.eq_iff_iff]
      simp only [decide_eq_true_eq]
      omega
    have HROOM := Lib.hid hroom
    have HB := Lib.hid hb
    clear hroom hb
    go_enter Try.func7, Try.ntmps7
    go_wp2_with fail
    refine (awake_any w).mono ?_
    rintro e w1 ⟨rfl, hb1⟩
    go_wp2_with fail
    refine (push_nil _ _ _ _).mono ?_
    rintro e w1' ⟨rfl, rfl⟩
    go_wp2_with fail
    refine (drain_nil _ _).mono ?_
    rintro e w1' ⟨rfl, rfl⟩
    go_wp2_with fail
    refine (new_yes 64 w1 (by omega) (by omega)).mono ?_
    rintro e w2 ⟨rfl, hw2⟩
    have q2 := QB.new w1 64 w.heap.size hb1.size (by omega)
    have hF2 := Lib.hid (hb1.alloc hb1.size (.cells #[.int .i64 ((64 : Nat) : Int), .slice none 0 0, .int .i64 0] 54))
    rw [hw2] at q2 hF2
    clear hw2
    obtain ⟨S2, hS2⟩ : ∃ S2, S2 = fun k => k = w1.heap.size := ⟨_, rfl⟩
    rw [← hS2] at q2
    clear hS2
    obtain ⟨g, hg⟩ : ∃ g, w1.heap.size = g := ⟨_, rfl⟩
    rw [hg] at q2
    rw [hg]
    have hr2 := hr.below hF2.out
    clear hg
    go_wp2_with (at_make; refine wpList_make_full _ rfl _ _ 28 rfl w2.heap.size 5 i0 _ 1 Try.underlying28 hi hz0 hz1 _ _ _ _ N rfl rfl ?d0 ?d1 ?d2 ?d3 ?d4 ?_)
    case d0 => exact H64.out
    case d1 => exact H64.out
    case d2 => rw [hz2, HN.out]; omega
    case d3 => rw [HN.out]; decide
    case d4 => exact Nat.le_refl _
    intro w3 hown3 hg3
    have hown3 := Own.of hown3
    rw [show (madeCells #[Value.int .u8 0] N).toList = bs z by have := made_zeros N; rw [Nat.mul_one] at this; rw [HZ.out]; exact this] at hown3
    have hr3 := hown3.rd
    have q3 := q2.grown hg3 (fun k hk => by cases hk)
    have hF3 := Lib.hid (hF2.out.grown hg3 hF2.out.size (by simp))
    clear hown3 hg3 q2 hr2
    go_wp2_with fail
    refine (push_any q3 _ N N z true z 0 (by rw [HL.out, HN.out]) (by rw [HN.out]; omega) (by omega) hr3 (hasRoom_iff.2 (by rw [HL.out]; decide)) (by unfold pushL; rw [if_pos (hasRoom_iff.2 (by rw [HL.out]; decide))]; rfl) (by unfold pushD; rw [if_pos (hasRoom_iff.2 (by rw [HL.out]; decide))])).mono ?_
    rintro e w4 ⟨rfl, ⟨S4, v4, q4, _⟩, hf4⟩
    have hF4 := Lib.hid (hF3.out.trans (hf4.below hF3.out.size q3.lo))
    clear hf4 q3 hr3
    go_wp2_with fail
    refine (push_any q4 none 0 0 [] true z 0 rfl (by omega) (by omega) (Rd.nil _ _) (hasRoom_iff.2 (by rw [HL.out]; decide)) (by unfold pushL; rw [if_pos (hasRoom_iff.2 (by rw [HL.out]; decide)), List.append_nil]) (by unfold pushD; rw [if_pos (hasRoom_iff.2 (by rw [HL.out]; decide))])).mono ?_
    rintro e w5 ⟨rfl, ⟨S5, v5, q5, _⟩, hf5⟩
    have hF5 := Lib.hid (hF4.out.trans (hf5.below hF4.out.size q4.lo))
    have hr5 := hr.below hF5.out
    clear hf5 q4
    by_cases h0 : m = 0
    · have HBT := Lib.hid (show b = true by rw [← HB.out]; simpa using h0)
      have HM0 := Lib.hid (show l = [] from List.eq_nil_of_length_eq_zero (by rw [HM.out]; exact h0))
      subst h0
      go_wp2_with fail
      refine (push_any q5 A 0 c l true z 0 HM.out (by omega) (by omega) hr5 (by rw [HROOM.out, HBT.out]) (by unfold pushL; rw [HROOM.out, HBT.out, if_pos rfl, HM0.out, List.append_nil]) (by unfold pushD; rw [HROOM.out, HBT.out]; rfl)).mono ?_
      rintro e w6 ⟨rfl, ⟨S6, v6, q6, _⟩, hf6⟩
      have hF6 := Lib.hid (hF5.out.trans (hf6.below hF5.out.size q5.lo))
      clear hf6 q5 hr5
      go_wp2_with (first
        | (refine (len_nil _).mono ?_; rintro e w' ⟨rfl, rfl⟩)
        | (refine (dropped_nil _).mono ?_; rintro e w' ⟨rfl, rfl⟩)
        | (refine (dropped_any q6).mono ?_; rintro e w' ⟨rfl, rfl⟩)
        | (refine (drain_less q6 0 (by omega)).mono ?_; rintro e w7 ⟨⟨A7, c7, rfl, _⟩, _, hf7⟩))
      go_ret
      exact ⟨rfl, hF6.out.trans (hf7.below hF6.out.size q6.lo)⟩
    · have HBT := Lib.hid (show b = false by rw [← HB.out]; simpa using h0)
      have t0 : decide (0 < (m : Int)) = true := by simp; omega
      have t1 : ((m : Int) == 0) = false := by simp; omega
      go_wp2_with fail
      refine (push_any q5 A m c l false z 1 HM.out (by omega) (by omega) hr5 (by rw [HROOM.out, HBT.out]) (by unfold pushL; rw [HROOM.out, HBT.out, if_neg (by decide)]) (by unfold pushD; rw [HROOM.out, HBT.out]; rfl)).mono ?_
      rintro e w6 ⟨rfl, ⟨S6, v6, q6, _⟩, hf6⟩
      have hF6 := Lib.hid (hF5.out.trans (hf6.below hF5.out.size q5.lo))
      clear hf6 q5 hr5
      go_wp2_with (first
        | (refine (len_nil _).mono ?_; rintro e w' ⟨rfl, rfl⟩)
        | (refine (dropped_nil _).mono ?_; rintro e w' ⟨rfl, rfl⟩)
        | (refine (dropped_any q6).mono ?_; rintro e w' ⟨rfl, rfl⟩)
        | (refine (drain_less q6 0 (by omega)).mono ?_; rintro e w7 ⟨⟨A7, c7, rfl, _⟩, _, hf7⟩))
      go_ret
      exact ⟨rfl, hF6.out.trans (hf7.below hF6.out.size q6.lo)⟩
  · have t0 : decide (200 < (m : Int)) = true := by simp; omega
    go_enter Try.func7, Try.ntmps7
    go_wp2_with fail
    refine (awake_any w).mono ?_
    rintro e w1 ⟨rfl, hb1⟩
    go_wp2_with fail
    go_ret
    exact ⟨rfl, hb1⟩
end Go.Proofs.Ythilpfgmbikhfaa
