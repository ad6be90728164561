/-
  Layer 9: the document's own answers: what has no form. Layer 9: the document's own answers: the pad, and Look. Stage 11, the landed legacy: its event as a value; has, put, single, and a sequence of numbers.
-/
import Derived.Test.YtceipblcdcgljaaGreatDoorG02
import Derived.Test.YtceipblcdcgljaaGreatDoorG04
import Derived.Test.YtceipblcdcgljaaGreatDoorG07
import Derived.Test.YtceipblcdcgljaaGreatDoorG09
import Derived.Test.YtceipblcdcgljaaGreatDoorG11
import Derived.Test.YtceipblcdcgljaaGreatDoorG12
import Derived.Test.YtceipblcdcgljaaGreatDoorG13
import Derived.Test.YtceipblcdcgljaaGreatDoorG15
import Derived.Laws.BitsLemmas
namespace Go.Proofs.YtceipblcdcgljaaGreatDoor
open Go.RowKit
theorem ret_b9 {a b : Bool} (h : a = b) : Ending.returned (.bool a) = .returned (.bool b) := by rw [h]
set_option maxRecDepth 100000 in
set_option maxHeartbeats 8000000 in
theorem ris_any (c : Int) (w : World) : Calls Tryz.prog 81 #[.int .i64 c] w fun e w' => e = .returned (.bool (isPtK c)) ∧ Below w.heap.size w w' := by
 go_enter Tryz.func81, Tryz.ntmps81
 go_wp2
 all_goals
  go_ret
  refine ⟨ret_b9 ?_, Below.refl _ _⟩
  simp [isPtK] at *
  try omega
  try (cases hx : decide (57343 < c) <;> simp_all <;> omega)
set_option maxRecDepth 100000 in
set_option maxHeartbeats 8000000 in
theorem rrest_0 (c : Int) (w : World) (hc : ¬ (c = 9 ∨ c = 13 ∨ c = 27 ∨ c = 127)) (k0 : c < 32) : Calls Tryz.prog 55 #[.int .i64 c] w fun e w' => e = .returned (.int .i64 (restN c)) ∧ Below w.heap.size w w' := by
 have a0 : c < 57358 := by omega
 have a1 : c ≤ 57362 := by omega
 have a2 : c < 57376 := by omega
 have a3 : c ≤ 57398 := by omega
 have a4 : c < 57428 := by omega
 have a5 : c ≤ 57440 := by omega
 have a6 : c < 57441 := by omega
 have a7 : c ≤ 57454 := by omega
 have a8 : c < 32 := by omega
 have a9 : c < 127 := by omega
 have a10 : c ≤ 159 := by omega
 have a11 : c < 57344 := by omega
 have a12 : c ≤ 63743 := by omega
 obtain ⟨q, hq⟩ : ∃ q, isPtK c = q := ⟨_, rfl⟩
 have HI := Lib.hid (ris_any c w)
 rw [hq] at HI
 have E := Lib.hid (show restN c = 0 by unfold restN; rw [if_neg hc, if_neg (by omega), if_neg (by omega), if_pos (by omega)])
 clear hq
 have e0 : (c == 9) = false := by simp; omega
 have e1 : (c == 13) = false := by simp; omega
 have e2 : (c == 27) = false := by simp; omega
 have e3 : (c == 127) = false := by simp; omega
 clear hc k0
 cases q
 all_goals
  go_enter Tryz.func55, Tryz.ntmps55
  go_wp2_with fail
  refine HI.out.mono ?_
  rintro e w1 ⟨rfl, hb⟩
  go_wp2_with fail
  go_ret
  exact ⟨by rw [E.out]; rfl, hb⟩
set_option maxRecDepth 100000 in
set_option maxHeartbeats 8000000 in
theorem rrest_1 (c : Int) (w : World) (hc : ¬ (c = 9 ∨ c = 13 ∨ c = 27 ∨ c = 127)) (k0 : 32 ≤ c) (k1 : c < 127) : Calls Tryz.prog 55 #[.int .i64 c] w fun e w' => e = .returned (.int .i64 (restN c)) ∧ Below w.heap.size w w' := by
 have a0 : c < 57358 := by omega
 have a1 : c ≤ 57362 := by omega
 have a2 : c < 57376 := by omega
 have a3 : c ≤ 57398 := by omega
 have a4 : c < 57428 := by omega
 have a5 : c ≤ 57440 := by omega
 have a6 : c < 57441 := by omega
 have a7 : c ≤ 57454 := by omega
 have a8 : 32 ≤ c := by omega
 have a9 : c < 127 := by omega
 have a10 : c ≤ 159 := by omega
 have a11 : c < 57344 := by omega
 have a12 : c ≤ 63743 := by omega
 obtain ⟨q, hq⟩ : ∃ q, isPtK c = q := ⟨_, rfl⟩
 have HI := Lib.hid (ris_any c w)
 rw [hq] at HI
 have E := Lib.hid (show restN c = (if q = false then 0 else 1) by
  unfold restN
  rw [if_neg hc, if_neg (by omega), if_neg (by omega), hq]
  cases q
  ·rw [if_pos (.inl rfl), if_pos rfl]
  ·rw [if_neg (by simp; omega), if_neg (by decide)])
 clear hq
 have e0 : (c == 9) = false := by simp; omega
 have e1 : (c == 13) = false := by simp; omega
 have e2 : (c == 27) = false := by simp; omega
 have e3 : (c == 127) = false := by simp; omega
 clear hc k0 k1
 cases q
 all_goals
  go_enter Tryz.func55, Tryz.ntmps55
  go_wp2_with fail
  refine HI.out.mono ?_
  rintro e w1 ⟨rfl, hb⟩
  go_wp2_with fail
  go_ret
  exact ⟨by rw [E.out]; rfl, hb⟩
set_option maxRecDepth 100000 in
set_option maxHeartbeats 8000000 in
theorem rrest_2 (c : Int) (w : World) (hc : ¬ (c = 9 ∨ c = 13 ∨ c = 27 ∨ c = 127)) (k0 : 127 ≤ c) (k1 : c < 160) : Calls Tryz.prog 55 #[.int .i64 c] w fun e w' => e = .returned (.int .i64 (restN c)) ∧ Below w.heap.size w w' := by
 have a0 : c < 57358 := by omega
 have a1 : c ≤ 57362 := by omega
 have a2 : c < 57376 := by omega
 have a3 : c ≤ 57398 := by omega
 have a4 : c < 57428 := by omega
 have a5 : c ≤ 57440 := by omega
 have a6 : c < 57441 := by omega
 have a7 : c ≤ 57454 := by omega
 have a8 : 32 ≤ c := by omega
 have a9 : 127 ≤ c := by omega
 have a10 : c ≤ 159 := by omega
 have a11 : c < 57344 := by omega
 have a12 : c ≤ 63743 := by omega
 obtain ⟨q, hq⟩ : ∃ q, isPtK c = q := ⟨_, rfl⟩
 have HI := Lib.hid (ris_any c w)
 rw [hq] at HI
 have E := Lib.hid (show restN c = 0 by unfold restN; rw [if_neg hc, if_neg (by omega), if_neg (by omega), if_pos (by omega)])
 clear hq
 have e0 : (c == 9) = false := by simp; omega
 have e1 : (c == 13) = false := by simp; omega
 have e2 : (c == 27) = false := by simp; omega
 have e3 : (c == 127) = false := by simp; omega
 clear hc k0 k1
 cases q
 all_goals
  go_enter Tryz.func55, Tryz.ntmps55
  go_wp2_with fail
  refine HI.out.mono ?_
  rintro e w1 ⟨rfl, hb⟩
  go_wp2_with fail
  go_ret
  exact ⟨by rw [E.out]; rfl, hb⟩
set_option maxRecDepth 100000 in
set_option maxHeartbeats 8000000 in
theorem rrest_3 (c : Int) (w : World) (hc : ¬ (c = 9 ∨ c = 13 ∨ c = 27 ∨ c = 127)) (k0 : 160 ≤ c) (k1 : c < 57344) : Calls Tryz.prog 55 #[.int .i64 c] w fun e w' => e = .returned (.int .i64 (restN c)) ∧ Below w.heap.size w w' := by
 have a0 : c < 57358 := by omega
 have a1 : c ≤ 57362 := by omega
 have a2 : c < 57376 := by omega
 have a3 : c ≤ 57398 := by omega
 have a4 : c < 57428 := by omega
 have a5 : c ≤ 57440 := by omega
 have a6 : c < 57441 := by omega
 have a7 : c ≤ 57454 := by omega
 have a8 : 32 ≤ c := by omega
 have a9 : 127 ≤ c := by omega
 have a10 : 159 < c := by omega
 have a11 : c < 57344 := by omega
 have a12 : c ≤ 63743 := by omega
 obtain ⟨q, hq⟩ : ∃ q, isPtK c = q := ⟨_, rfl⟩
 have HI := Lib.hid (ris_any c w)
 rw [hq] at HI
 have E := Lib.hid (show restN c = (if q = false then 0 else 1) by
  unfold restN
  rw [if_neg hc, if_neg (by omega), if_neg (by omega), hq]
  cases q
  ·rw [if_pos (.inl rfl), if_pos rfl]
  ·rw [if_neg (by simp; omega), if_neg (by decide)])
 clear hq
 have e0 : (c == 9) = false := by simp; omega
 have e1 : (c == 13) = false := by simp; omega
 have e2 : (c == 27) = false := by simp; omega
 have e3 : (c == 127) = false := by simp; omega
 clear hc k0 k1
 cases q
 all_goals
  go_enter Tryz.func55, Tryz.ntmps55
  go_wp2_with fail
  refine HI.out.mono ?_
  rintro e w1 ⟨rfl, hb⟩
  go_wp2_with fail
  go_ret
  exact ⟨by rw [E.out]; rfl, hb⟩
set_option maxRecDepth 100000 in
set_option maxHeartbeats 8000000 in
theorem rrest_4 (c : Int) (w : World) (hc : ¬ (c = 9 ∨ c = 13 ∨ c = 27 ∨ c = 127)) (k0 : 57344 ≤ c) (k1 : c < 57358) : Calls Tryz.prog 55 #[.int .i64 c] w fun e w' => e = .returned (.int .i64 (restN c)) ∧ Below w.heap.size w w' := by
 have a0 : c < 57358 := by omega
 have a1 : c ≤ 57362 := by omega
 have a2 : c < 57376 := by omega
 have a3 : c ≤ 57398 := by omega
 have a4 : c < 57428 := by omega
 have a5 : c ≤ 57440 := by omega
 have a6 : c < 57441 := by omega
 have a7 : c ≤ 57454 := by omega
 have a8 : 32 ≤ c := by omega
 have a9 : 127 ≤ c := by omega
 have a10 : 159 < c := by omega
 have a11 : 57344 ≤ c := by omega
 have a12 : c ≤ 63743 := by omega
 obtain ⟨q, hq⟩ : ∃ q, isPtK c = q := ⟨_, rfl⟩
 have HI := Lib.hid (ris_any c w)
 rw [hq] at HI
 have E := Lib.hid (show restN c = 0 by unfold restN; rw [if_neg hc, if_neg (by omega), if_neg (by omega), if_pos (by omega)])
 clear hq
 have e0 : (c == 9) = false := by simp; omega
 have e1 : (c == 13) = false := by simp; omega
 have e2 : (c == 27) = false := by simp; omega
 have e3 : (c == 127) = false := by simp; omega
 clear hc k0 k1
 cases q
 all_goals
  go_enter Tryz.func55, Tryz.ntmps55
  go_wp2_with fail
  refine HI.out.mono ?_
  rintro e w1 ⟨rfl, hb⟩
  go_wp2_with fail
  go_ret
  exact ⟨by rw [E.out]; rfl, hb⟩
set_option maxRecDepth 100000 in
set_option maxHeartbeats 8000000 in
theorem rrest_5 (c : Int) (w : World) (hc : ¬ (c = 9 ∨ c = 13 ∨ c = 27 ∨ c = 127)) (k0 : 57358 ≤ c) (k1 : c < 57363) : Calls Tryz.prog 55 #[.int .i64 c] w fun e w' => e = .returned (.int .i64 (restN c)) ∧ Below w.heap.size w w' := by
 have a0 : 57358 ≤ c := by omega
 have a1 : c ≤ 57362 := by omega
 have a2 : c < 57376 := by omega
 have a3 : c ≤ 57398 := by omega
 have a4 : c < 57428 := by omega
 have a5 : c ≤ 57440 := by omega
 have a6 : c < 57441 := by omega
 have a7 : c ≤ 57454 := by omega
 have a8 : 32 ≤ c := by omega
 have a9 : 127 ≤ c := by omega
 have a10 : 159 < c := by omega
 have a11 : 57344 ≤ c := by omega
 have a12 : c ≤ 63743 := by omega
 have E := Lib.hid (show restN c = 6 by unfold restN; rw [if_neg hc, if_pos (by omega)])
 have e0 : (c == 9) = false := by simp; omega
 have e1 : (c == 13) = false := by simp; omega
 have e2 : (c == 27) = false := by simp; omega
 have e3 : (c == 127) = false := by simp; omega
 clear hc k0 k1
 go_enter Tryz.func55, Tryz.ntmps55
 go_wp2_with fail
 go_ret
 exact ⟨by rw [E.out]; rfl, Below.refl _ _⟩
set_option maxRecDepth 100000 in
set_option maxHeartbeats 8000000 in
theorem rrest_6 (c : Int) (w : World) (hc : ¬ (c = 9 ∨ c = 13 ∨ c = 27 ∨ c = 127)) (k0 : 57363 ≤ c) (k1 : c < 57376) : Calls Tryz.prog 55 #[.int .i64 c] w fun e w' => e = .returned (.int .i64 (restN c)) ∧ Below w.heap.size w w' := by
 have a0 : 57358 ≤ c := by omega
 have a1 : 57362 < c := by omega
 have a2 : c < 57376 := by omega
 have a3 : c ≤ 57398 := by omega
 have a4 : c < 57428 := by omega
 have a5 : c ≤ 57440 := by omega
 have a6 : c < 57441 := by omega
 have a7 : c ≤ 57454 := by omega
 have a8 : 32 ≤ c := by omega
 have a9 : 127 ≤ c := by omega
 have a10 : 159 < c := by omega
 have a11 : 57344 ≤ c := by omega
 have a12 : c ≤ 63743 := by omega
 obtain ⟨q, hq⟩ : ∃ q, isPtK c = q := ⟨_, rfl⟩
 have HI := Lib.hid (ris_any c w)
 rw [hq] at HI
 have E := Lib.hid (show restN c = 0 by unfold restN; rw [if_neg hc, if_neg (by omega), if_neg (by omega), if_pos (by omega)])
 clear hq
 have e0 : (c == 9) = false := by simp; omega
 have e1 : (c == 13) = false := by simp; omega
 have e2 : (c == 27) = false := by simp; omega
 have e3 : (c == 127) = false := by simp; omega
 clear hc k0 k1
 cases q
 all_goals
  go_enter Tryz.func55, Tryz.ntmps55
  go_wp2_with fail
  refine HI.out.mono ?_
  rintro e w1 ⟨rfl, hb⟩
  go_wp2_with fail
  go_ret
  exact ⟨by rw [E.out]; rfl, hb⟩
set_option maxRecDepth 100000 in
set_option maxHeartbeats 8000000 in
theorem rrest_7 (c : Int) (w : World) (hc : ¬ (c = 9 ∨ c = 13 ∨ c = 27 ∨ c = 127)) (k0 : 57376 ≤ c) (k1 : c < 57399) : Calls Tryz.prog 55 #[.int .i64 c] w fun e w' => e = .returned (.int .i64 (restN c)) ∧ Below w.heap.size w w' := by
 have a0 : 57358 ≤ c := by omega
 have a1 : 57362 < c := by omega
 have a2 : 57376 ≤ c := by omega
 have a3 : c ≤ 57398 := by omega
 have a4 : c < 57428 := by omega
 have a5 : c ≤ 57440 := by omega
 have a6 : c < 57441 := by omega
 have a7 : c ≤ 57454 := by omega
 have a8 : 32 ≤ c := by omega
 have a9 : 127 ≤ c := by omega
 have a10 : 159 < c := by omega
 have a11 : 57344 ≤ c := by omega
 have a12 : c ≤ 63743 := by omega
 have E := Lib.hid (show restN c = 6 by unfold restN; rw [if_neg hc, if_pos (by omega)])
 have e0 : (c == 9) = false := by simp; omega
 have e1 : (c == 13) = false := by simp; omega
 have e2 : (c == 27) = false := by simp; omega
 have e3 : (c == 127) = false := by simp; omega
 clear hc k0 k1
 go_enter Tryz.func55, Tryz.ntmps55
 go_wp2_with fail
 go_ret
 exact ⟨by rw [E.out]; rfl, Below.refl _ _⟩
set_option maxRecDepth 100000 in
set_option maxHeartbeats 8000000 in
theorem rrest_8 (c : Int) (w : World) (hc : ¬ (c = 9 ∨ c = 13 ∨ c = 27 ∨ c = 127)) (k0 : 57399 ≤ c) (k1 : c < 57428) : Calls Tryz.prog 55 #[.int .i64 c] w fun e w' => e = .returned (.int .i64 (restN c)) ∧ Below w.heap.size w w' := by
 have a0 : 57358 ≤ c := by omega
 have a1 : 57362 < c := by omega
 have a2 : 57376 ≤ c := by omega
 have a3 : 57398 < c := by omega
 have a4 : c < 57428 := by omega
 have a5 : c ≤ 57440 := by omega
 have a6 : c < 57441 := by omega
 have a7 : c ≤ 57454 := by omega
 have a8 : 32 ≤ c := by omega
 have a9 : 127 ≤ c := by omega
 have a10 : 159 < c := by omega
 have a11 : 57344 ≤ c := by omega
 have a12 : c ≤ 63743 := by omega
 obtain ⟨q, hq⟩ : ∃ q, isPtK c = q := ⟨_, rfl⟩
 have HI := Lib.hid (ris_any c w)
 rw [hq] at HI
 have E := Lib.hid (show restN c = 0 by unfold restN; rw [if_neg hc, if_neg (by omega), if_neg (by omega), if_pos (by omega)])
 clear hq
 have e0 : (c == 9) = false := by simp; omega
 have e1 : (c == 13) = false := by simp; omega
 have e2 : (c == 27) = false := by simp; omega
 have e3 : (c == 127) = false := by simp; omega
 clear hc k0 k1
 cases q
 all_goals
  go_enter Tryz.func55, Tryz.ntmps55
  go_wp2_with fail
  refine HI.out.mono ?_
  rintro e w1 ⟨rfl, hb⟩
  go_wp2_with fail
  go_ret
  exact ⟨by rw [E.out]; rfl, hb⟩
set_option maxRecDepth 100000 in
set_option maxHeartbeats 8000000 in
theorem rrest_9 (c : Int) (w : World) (hc : ¬ (c = 9 ∨ c = 13 ∨ c = 27 ∨ c = 127)) (k0 : 57428 ≤ c) (k1 : c < 57441) : Calls Tryz.prog 55 #[.int .i64 c] w fun e w' => e = .returned (.int .i64 (restN c)) ∧ Below w.heap.size w w' := by
 have a0 : 57358 ≤ c := by omega
 have a1 : 57362 < c := by omega
 have a2 : 57376 ≤ c := by omega
 have a3 : 57398 < c := by omega
 have a4 : 57428 ≤ c := by omega
 have a5 : c ≤ 57440 := by omega
 have a6 : c < 57441 := by omega
 have a7 : c ≤ 57454 := by omega
 have a8 : 32 ≤ c := by omega
 have a9 : 127 ≤ c := by omega
 have a10 : 159 < c := by omega
 have a11 : 57344 ≤ c := by omega
 have a12 : c ≤ 63743 := by omega
 have E := Lib.hid (show restN c = 6 by unfold restN; rw [if_neg hc, if_pos (by omega)])
 have e0 : (c == 9) = false := by simp; omega
 have e1 : (c == 13) = false := by simp; omega
 have e2 : (c == 27) = false := by simp; omega
 have e3 : (c == 127) = false := by simp; omega
 clear hc k0 k1
 go_enter Tryz.func55, Tryz.ntmps55
 go_wp2_with fail
 go_ret
 exact ⟨by rw [E.out]; rfl, Below.refl _ _⟩
set_option maxRecDepth 100000 in
set_option maxHeartbeats 8000000 in
theorem rrest_10 (c : Int) (w : World) (hc : ¬ (c = 9 ∨ c = 13 ∨ c = 27 ∨ c = 127)) (k0 : 57441 ≤ c) (k1 : c < 57455) : Calls Tryz.prog 55 #[.int .i64 c] w fun e w' => e = .returned (.int .i64 (restN c)) ∧ Below w.heap.size w w' := by
 have a0 : 57358 ≤ c := by omega
 have a1 : 57362 < c := by omega
 have a2 : 57376 ≤ c := by omega
 have a3 : 57398 < c := by omega
 have a4 : 57428 ≤ c := by omega
 have a5 : 57440 < c := by omega
 have a6 : 57441 ≤ c := by omega
 have a7 : c ≤ 57454 := by omega
 have a8 : 32 ≤ c := by omega
 have a9 : 127 ≤ c := by omega
 have a10 : 159 < c := by omega
 have a11 : 57344 ≤ c := by omega
 have a12 : c ≤ 63743 := by omega
 have E := Lib.hid (show restN c = 7 by unfold restN; rw [if_neg hc, if_neg (by omega), if_pos (by omega)])
 have e0 : (c == 9) = false := by simp; omega
 have e1 : (c == 13) = false := by simp; omega
 have e2 : (c == 27) = false := by simp; omega
 have e3 : (c == 127) = false := by simp; omega
 clear hc k0 k1
 go_enter Tryz.func55, Tryz.ntmps55
 go_wp2_with fail
 go_ret
 exact ⟨by rw [E.out]; rfl, Below.refl _ _⟩
set_option maxRecDepth 100000 in
set_option maxHeartbeats 8000000 in
theorem rrest_11 (c : Int) (w : World) (hc : ¬ (c = 9 ∨ c = 13 ∨ c = 27 ∨ c = 127)) (k0 : 57455 ≤ c) (k1 : c < 63744) : Calls Tryz.prog 55 #[.int .i64 c] w fun e w' => e = .returned (.int .i64 (restN c)) ∧ Below w.heap.size w w' := by
 have a0 : 57358 ≤ c := by omega
 have a1 : 57362 < c := by omega
 have a2 : 57376 ≤ c := by omega
 have a3 : 57398 < c := by omega
 have a4 : 57428 ≤ c := by omega
 have a5 : 57440 < c := by omega
 have a6 : 57441 ≤ c := by omega
 have a7 : 57454 < c := by omega
 have a8 : 32 ≤ c := by omega
 have a9 : 127 ≤ c := by omega
 have a10 : 159 < c := by omega
 have a11 : 57344 ≤ c := by omega
 have a12 : c ≤ 63743 := by omega
 obtain ⟨q, hq⟩ : ∃ q, isPtK c = q := ⟨_, rfl⟩
 have HI := Lib.hid (ris_any c w)
 rw [hq] at HI
 have E := Lib.hid (show restN c = 0 by unfold restN; rw [if_neg hc, if_neg (by omega), if_neg (by omega), if_pos (by omega)])
 clear hq
 have e0 : (c == 9) = false := by simp; omega
 have e1 : (c == 13) = false := by simp; omega
 have e2 : (c == 27) = false := by simp; omega
 have e3 : (c == 127) = false := by simp; omega
 clear hc k0 k1
 cases q
 all_goals
  go_enter Tryz.func55, Tryz.ntmps55
  go_wp2_with fail
  refine HI.out.mono ?_
  rintro e w1 ⟨rfl, hb⟩
  go_wp2_with fail
  go_ret
  exact ⟨by rw [E.out]; rfl, hb⟩
set_option maxRecDepth 100000 in
set_option maxHeartbeats 8000000 in
theorem rrest_12 (c : Int) (w : World) (hc : ¬ (c = 9 ∨ c = 13 ∨ c = 27 ∨ c = 127)) (k0 : 63744 ≤ c) : Calls Tryz.prog 55 #[.int .i64 c] w fun e w' => e = .returned (.int .i64 (restN c)) ∧ Below w.heap.size w w' := by
 have a0 : 57358 ≤ c := by omega
 have a1 : 57362 < c := by omega
 have a2 : 57376 ≤ c := by omega
 have a3 : 57398 < c := by omega
 have a4 : 57428 ≤ c := by omega
 have a5 : 57440 < c := by omega
 have a6 : 57441 ≤ c := by omega
 have a7 : 57454 < c := by omega
 have a8 : 32 ≤ c := by omega
 have a9 : 127 ≤ c := by omega
 have a10 : 159 < c := by omega
 have a11 : 57344 ≤ c := by omega
 have a12 : 63743 < c := by omega
 obtain ⟨q, hq⟩ : ∃ q, isPtK c = q := ⟨_, rfl⟩
 have HI := Lib.hid (ris_any c w)
 rw [hq] at HI
 have E := Lib.hid (show restN c = (if q = false then 0 else 1) by
  unfold restN
  rw [if_neg hc, if_neg (by omega), if_neg (by omega), hq]
  cases q
  ·rw [if_pos (.inl rfl), if_pos rfl]
  ·rw [if_neg (by simp; omega), if_neg (by decide)])
 clear hq
 have e0 : (c == 9) = false := by simp; omega
 have e1 : (c == 13) = false := by simp; omega
 have e2 : (c == 27) = false := by simp; omega
 have e3 : (c == 127) = false := by simp; omega
 clear hc k0
 cases q
 all_goals
  go_enter Tryz.func55, Tryz.ntmps55
  go_wp2_with fail
  refine HI.out.mono ?_
  rintro e w1 ⟨rfl, hb⟩
  go_wp2_with fail
  go_ret
  exact ⟨by rw [E.out]; rfl, hb⟩
set_option maxRecDepth 100000 in
theorem rrest_any (c : Int) (w : World) : Calls Tryz.prog 55 #[.int .i64 c] w fun e w' => e = .returned (.int .i64 (restN c)) ∧ Below w.heap.size w w' := by
 by_cases hc : c = 9 ∨ c = 13 ∨ c = 27 ∨ c = 127
 ·have E := Lib.hid (show restN c = 2 by unfold restN; rw [if_pos hc])
  rcases hc with rfl | rfl | rfl | rfl
  all_goals
   go_enter Tryz.func55, Tryz.ntmps55
   go_wp2_with fail
   go_ret
   exact ⟨by rw [E.out]; rfl, Below.refl _ _⟩
 by_cases h0 : c < 32
 ·exact rrest_0 c w hc h0
 by_cases h1 : c < 127
 ·exact rrest_1 c w hc (by omega) h1
 by_cases h2 : c < 160
 ·exact rrest_2 c w hc (by omega) h2
 by_cases h3 : c < 57344
 ·exact rrest_3 c w hc (by omega) h3
 by_cases h4 : c < 57358
 ·exact rrest_4 c w hc (by omega) h4
 by_cases h5 : c < 57363
 ·exact rrest_5 c w hc (by omega) h5
 by_cases h6 : c < 57376
 ·exact rrest_6 c w hc (by omega) h6
 by_cases h7 : c < 57399
 ·exact rrest_7 c w hc (by omega) h7
 by_cases h8 : c < 57428
 ·exact rrest_8 c w hc (by omega) h8
 by_cases h9 : c < 57441
 ·exact rrest_9 c w hc (by omega) h9
 by_cases h10 : c < 57455
 ·exact rrest_10 c w hc (by omega) h10
 by_cases h11 : c < 63744
 ·exact rrest_11 c w hc (by omega) h11
 exact rrest_12 c w hc (by omega)
set_option maxRecDepth 100000 in
set_option maxHeartbeats 16000000 in
theorem rpad_0 (w : World) : Calls Tryz.prog 54 #[.int .i64 57399] w fun e w' => e = .returned (enV (padE 57399)) ∧ Below w.heap.size w w' := by
 go_enter Tryz.func54, Tryz.ntmps54
 go_wp2_with fail
 refine bodyPost_ret (v := enV (padE 57399)) (by simp [results, Tryz.results54, go_sem, enV, padE] <;> (constructor <;> decide +kernel)) rfl ⟨rfl, below_two _ _⟩
set_option maxRecDepth 100000 in
set_option maxHeartbeats 16000000 in
theorem rpad_1 (w : World) : Calls Tryz.prog 54 #[.int .i64 57400] w fun e w' => e = .returned (enV (padE 57400)) ∧ Below w.heap.size w w' := by
 go_enter Tryz.func54, Tryz.ntmps54
 go_wp2_with fail
 refine bodyPost_ret (v := enV (padE 57400)) (by simp [results, Tryz.results54, go_sem, enV, padE] <;> (constructor <;> decide +kernel)) rfl ⟨rfl, below_two _ _⟩
set_option maxRecDepth 100000 in
set_option maxHeartbeats 16000000 in
theorem rpad_2 (w : World) : Calls Tryz.prog 54 #[.int .i64 57401] w fun e w' => e = .returned (enV (padE 57401)) ∧ Below w.heap.size w w' := by
 go_enter Tryz.func54, Tryz.ntmps54
 go_wp2_with fail
 refine bodyPost_ret (v := enV (padE 57401)) (by simp [results, Tryz.results54, go_sem, enV, padE] <;> (constructor <;> decide +kernel)) rfl ⟨rfl, below_two _ _⟩
set_option maxRecDepth 100000 in
set_option maxHeartbeats 16000000 in
theorem rpad_3 (w : World) : Calls Tryz.prog 54 #[.int .i64 57402] w fun e w' => e = .returned (enV (padE 57402)) ∧ Below w.heap.size w w' := by
 go_enter Tryz.func54, Tryz.ntmps54
 go_wp2_with fail
 refine bodyPost_ret (v := enV (padE 57402)) (by simp [results, Tryz.results54, go_sem, enV, padE] <;> (constructor <;> decide +kernel)) rfl ⟨rfl, below_two _ _⟩
set_option maxRecDepth 100000 in
set_option maxHeartbeats 16000000 in
theorem rpad_4 (w : World) : Calls Tryz.prog 54 #[.int .i64 57403] w fun e w' => e = .returned (enV (padE 57403)) ∧ Below w.heap.size w w' := by
 go_enter Tryz.func54, Tryz.ntmps54
 go_wp2_with fail
 refine bodyPost_ret (v := enV (padE 57403)) (by simp [results, Tryz.results54, go_sem, enV, padE] <;> (constructor <;> decide +kernel)) rfl ⟨rfl, below_two _ _⟩
set_option maxRecDepth 100000 in
set_option maxHeartbeats 16000000 in
theorem rpad_5 (w : World) : Calls Tryz.prog 54 #[.int .i64 57404] w fun e w' => e = .returned (enV (padE 57404)) ∧ Below w.heap.size w w' := by
 go_enter Tryz.func54, Tryz.ntmps54
 go_wp2_with fail
 refine bodyPost_ret (v := enV (padE 57404)) (by simp [results, Tryz.results54, go_sem, enV, padE] <;> (constructor <;> decide +kernel)) rfl ⟨rfl, below_two _ _⟩
set_option maxRecDepth 100000 in
set_option maxHeartbeats 16000000 in
theorem rpad_6 (w : World) : Calls Tryz.prog 54 #[.int .i64 57405] w fun e w' => e = .returned (enV (padE 57405)) ∧ Below w.heap.size w w' := by
 go_enter Tryz.func54, Tryz.ntmps54
 go_wp2_with fail
 refine bodyPost_ret (v := enV (padE 57405)) (by simp [results, Tryz.results54, go_sem, enV, padE] <;> (constructor <;> decide +kernel)) rfl ⟨rfl, below_two _ _⟩
set_option maxRecDepth 100000 in
set_option maxHeartbeats 16000000 in
theorem rpad_7 (w : World) : Calls Tryz.prog 54 #[.int .i64 57406] w fun e w' => e = .returned (enV (padE 57406)) ∧ Below w.heap.size w w' := by
 go_enter Tryz.func54, Tryz.ntmps54
 go_wp2_with fail
 refine bodyPost_ret (v := enV (padE 57406)) (by simp [results, Tryz.results54, go_sem, enV, padE] <;> (constructor <;> decide +kernel)) rfl ⟨rfl, below_two _ _⟩
set_option maxRecDepth 100000 in
set_option maxHeartbeats 16000000 in
theorem rpad_8 (w : World) : Calls Tryz.prog 54 #[.int .i64 57407] w fun e w' => e = .returned (enV (padE 57407)) ∧ Below w.heap.size w w' := by
 go_enter Tryz.func54, Tryz.ntmps54
 go_wp2_with fail
 refine bodyPost_ret (v := enV (padE 57407)) (by simp [results, Tryz.results54, go_sem, enV, padE] <;> (constructor <;> decide +kernel)) rfl ⟨rfl, below_two _ _⟩
set_option maxRecDepth 100000 in
set_option maxHeartbeats 16000000 in
theorem rpad_9 (w : World) : Calls Tryz.prog 54 #[.int .i64 57408] w fun e w' => e = .returned (enV (padE 57408)) ∧ Below w.heap.size w w' := by
 go_enter Tryz.func54, Tryz.ntmps54
 go_wp2_with fail
 refine bodyPost_ret (v := enV (padE 57408)) (by simp [results, Tryz.results54, go_sem, enV, padE] <;> (constructor <;> decide +kernel)) rfl ⟨rfl, below_two _ _⟩
set_option maxRecDepth 100000 in
set_option maxHeartbeats 16000000 in
theorem rpad_10 (w : World) : Calls Tryz.prog 54 #[.int .i64 57409] w fun e w' => e = .returned (enV (padE 57409)) ∧ Below w.heap.size w w' := by
 go_enter Tryz.func54, Tryz.ntmps54
 go_wp2_with fail
 refine bodyPost_ret (v := enV (padE 57409)) (by simp [results, Tryz.results54, go_sem, enV, padE] <;> (constructor <;> decide +kernel)) rfl ⟨rfl, below_two _ _⟩
set_option maxRecDepth 100000 in
set_option maxHeartbeats 16000000 in
theorem rpad_11 (w : World) : Calls Tryz.prog 54 #[.int .i64 57410] w fun e w' => e = .returned (enV (padE 57410)) ∧ Below w.heap.size w w' := by
 go_enter Tryz.func54, Tryz.ntmps54
 go_wp2_with fail
 refine bodyPost_ret (v := enV (padE 57410)) (by simp [results, Tryz.results54, go_sem, enV, padE] <;> (constructor <;> decide +kernel)) rfl ⟨rfl, below_two _ _⟩
set_option maxRecDepth 100000 in
set_option maxHeartbeats 16000000 in
theorem rpad_12 (w : World) : Calls Tryz.prog 54 #[.int .i64 57411] w fun e w' => e = .returned (enV (padE 57411)) ∧ Below w.heap.size w w' := by
 go_enter Tryz.func54, Tryz.ntmps54
 go_wp2_with fail
 refine bodyPost_ret (v := enV (padE 57411)) (by simp [results, Tryz.results54, go_sem, enV, padE] <;> (constructor <;> decide +kernel)) rfl ⟨rfl, below_two _ _⟩
set_option maxRecDepth 100000 in
set_option maxHeartbeats 16000000 in
theorem rpad_13 (w : World) : Calls Tryz.prog 54 #[.int .i64 57412] w fun e w' => e = .returned (enV (padE 57412)) ∧ Below w.heap.size w w' := by
 go_enter Tryz.func54, Tryz.ntmps54
 go_wp2_with fail
 refine bodyPost_ret (v := enV (padE 57412)) (by simp [results, Tryz.results54, go_sem, enV, padE] <;> (constructor <;> decide +kernel)) rfl ⟨rfl, below_two _ _⟩
set_option maxRecDepth 100000 in
set_option maxHeartbeats 16000000 in
theorem rpad_14 (w : World) : Calls Tryz.prog 54 #[.int .i64 57413] w fun e w' => e = .returned (enV (padE 57413)) ∧ Below w.heap.size w w' := by
 go_enter Tryz.func54, Tryz.ntmps54
 go_wp2_with fail
 refine bodyPost_ret (v := enV (padE 57413)) (by simp [results, Tryz.results54, go_sem, enV, padE] <;> (constructor <;> decide +kernel)) rfl ⟨rfl, below_two _ _⟩
set_option maxRecDepth 100000 in
set_option maxHeartbeats 16000000 in
theorem rpad_15 (w : World) : Calls Tryz.prog 54 #[.int .i64 57414] w fun e w' => e = .returned (enV (padE 57414)) ∧ Below w.heap.size w w' := by
 go_enter Tryz.func54, Tryz.ntmps54
 go_wp2_with fail
 refine bodyPost_ret (v := enV (padE 57414)) (by simp [results, Tryz.results54, go_sem, enV, padE] <;> (constructor <;> decide +kernel)) rfl ⟨rfl, below_two _ _⟩
set_option maxRecDepth 100000 in
set_option maxHeartbeats 16000000 in
theorem rpad_16 (w : World) : Calls Tryz.prog 54 #[.int .i64 57415] w fun e w' => e = .returned (enV (padE 57415)) ∧ Below w.heap.size w w' := by
 go_enter Tryz.func54, Tryz.ntmps54
 go_wp2_with fail
 refine bodyPost_ret (v := enV (padE 57415)) (by simp [results, Tryz.results54, go_sem, enV, padE] <;> (constructor <;> decide +kernel)) rfl ⟨rfl, below_two _ _⟩
set_option maxRecDepth 100000 in
set_option maxHeartbeats 16000000 in
theorem rpad_17 (w : World) : Calls Tryz.prog 54 #[.int .i64 57416] w fun e w' => e = .returned (enV (padE 57416)) ∧ Below w.heap.size w w' := by
 go_enter Tryz.func54, Tryz.ntmps54
 go_wp2_with fail
 refine bodyPost_ret (v := enV (padE 57416)) (by simp [results, Tryz.results54, go_sem, enV, padE] <;> (constructor <;> decide +kernel)) rfl ⟨rfl, below_two _ _⟩
theorem rpad_any (c : Int) (h1 : 57399 ≤ c) (h2 : c ≤ 57416) (w : World) : Calls Tryz.prog 54 #[.int .i64 c] w fun e w' => e = .returned (enV (padE c)) ∧ Below w.heap.size w w' := by
 have hc : c = 57399 ∨ c = 57400 ∨ c = 57401 ∨ c = 57402 ∨ c = 57403 ∨ c = 57404 ∨ c = 57405 ∨ c = 57406 ∨ c = 57407 ∨ c = 57408 ∨ c = 57409 ∨ c = 57410 ∨ c = 57411 ∨ c = 57412 ∨ c = 57413 ∨ c = 57414 ∨ c = 57415 ∨ c = 57416 := by omega
 rcases hc with rfl | rfl | rfl | rfl | rfl | rfl | rfl | rfl | rfl | rfl | rfl | rfl | rfl | rfl | rfl | rfl | rfl | rfl
 ·exact rpad_0 w
 ·exact rpad_1 w
 ·exact rpad_2 w
 ·exact rpad_3 w
 ·exact rpad_4 w
 ·exact rpad_5 w
 ·exact rpad_6 w
 ·exact rpad_7 w
 ·exact rpad_8 w
 ·exact rpad_9 w
 ·exact rpad_10 w
 ·exact rpad_11 w
 ·exact rpad_12 w
 ·exact rpad_13 w
 ·exact rpad_14 w
 ·exact rpad_15 w
 ·exact rpad_16 w
 ·exact rpad_17 w
def evC (m : Mo) (k : Ky) (e : En) (o : Int) : Array Value := #[.bool m.cursor, .bool m.keypad, .bool m.back, .bool m.focus, .bool m.paste, .bool m.lock, .bool m.line, .int .i64 m.mouse, .int .i64 m.coding, .int .i64 m.other, .int .i64 k.code, .int .i64 k.mods, .int .i64 k.typ, .int .i64 k.shift, .int .i64 k.base, .string k.text, .int .i64 e.kind, .int .u8 e.fin, .int .i64 e.num, .int .i64 e.char, .bool e.keys, .int .i64 o]
theorem ev_key {w : World} {g : Nat} {t : TypeId} {m : Mo} {k : Ky} {e : En} {o : Int} (h : Blk w g t (evC m k e o)) : w.cell? ⟨g, 10, none⟩ = some (.int .i64 k.code) ∧ w.cell? ⟨g, 11, none⟩ = some (.int .i64 k.mods) ∧ w.cell? ⟨g, 12, none⟩ = some (.int .i64 k.typ) ∧ w.cell? ⟨g, 13, none⟩ = some (.int .i64 k.shift) ∧ w.cell? ⟨g, 14, none⟩ = some (.int .i64 k.base) ∧ w.cell? ⟨g, 15, none⟩ = some (.string k.text) :=
 ⟨h.cell 10, h.cell 11, h.cell 12, h.cell 13, h.cell 14, h.cell 15⟩
theorem ev_old {w : World} {g : Nat} {t : TypeId} {m : Mo} {k : Ky} {e : En} {o : Int} (h : Blk w g t (evC m k e o)) : w.cell? ⟨g, 21, none⟩ = some (.int .i64 o) :=
 h.cell 21
theorem ev_ent {w : World} {g : Nat} {t : TypeId} {m : Mo} {k : Ky} {e : En} {o : Int} (h : Blk w g t (evC m k e o)) : w.cell? ⟨g, 16, none⟩ = some (.int .i64 e.kind) ∧ w.cell? ⟨g, 17, none⟩ = some (.int .u8 e.fin) ∧ w.cell? ⟨g, 18, none⟩ = some (.int .i64 e.num) ∧ w.cell? ⟨g, 19, none⟩ = some (.int .i64 e.char) ∧ w.cell? ⟨g, 20, none⟩ = some (.bool e.keys) :=
 ⟨h.cell 16, h.cell 17, h.cell 18, h.cell 19, h.cell 20⟩
theorem ev_mo {w : World} {g : Nat} {t : TypeId} {m : Mo} {k : Ky} {e : En} {o : Int} (h : Blk w g t (evC m k e o)) : w.cell? ⟨g, 0, none⟩ = some (.bool m.cursor) ∧ w.cell? ⟨g, 1, none⟩ = some (.bool m.keypad) ∧ w.cell? ⟨g, 2, none⟩ = some (.bool m.back) ∧ w.cell? ⟨g, 3, none⟩ = some (.bool m.focus) ∧ w.cell? ⟨g, 4, none⟩ = some (.bool m.paste) ∧ w.cell? ⟨g, 5, none⟩ = some (.bool m.lock) ∧ w.cell? ⟨g, 6, none⟩ = some (.bool m.line) ∧ w.cell? ⟨g, 7, none⟩ = some (.int .i64 m.mouse) ∧ w.cell? ⟨g, 8, none⟩ = some (.int .i64 m.coding) ∧ w.cell? ⟨g, 9, none⟩ = some (.int .i64 m.other) :=
 ⟨h.cell 0, h.cell 1, h.cell 2, h.cell 3, h.cell 4, h.cell 5, h.cell 6, h.cell 7, h.cell 8, h.cell 9⟩
theorem Blk.wp_get {P : Program} {ops : Array Oper} {rest : List Oper} {op : Oper} {a : Act} {w : World} {g : Nat} {t : TypeId} {cs : Array Value} {td : TypeDesc} {Q : Exit → Act → World → Prop} (h : Blk w g t cs) (hu : P.underlying t = some td) (hr : td.isRow = true) (hi : (P.info? t).map (·.size) = some cs.size) (hgd : op.guard = none) (x : Operand) (ho : op.op = .load t x) (hx : a.eval x = .pointer (some ⟨g, 0, none⟩))
 (hK : wpList P ops Q rest (a.put op.dst (.agg cs)) w) : wpList P ops Q (op :: rest) a w :=
 wpList_load_mid hgd t x ho g 0 hx cs.toList td h.range hu hr (by rw [hi, Array.length_toList]) hK
theorem old_bits {o : Int} (h0 : 0 ≤ o) (h1 : o < 8) : (bits .and .i64 o 1 != 0) = (o % 2 == 1) ∧ (bits .and .i64 o 2 != 0) = (o / 2 % 2 == 1) ∧ (bits .and .i64 o 4 != 0) = (o / 4 % 2 == 1) := by
 obtain ⟨n, rfl⟩ := Int.eq_ofNat_of_zero_le h0
 have : ∀ n : Fin 8, (bits .and .i64 ((n.1 : Nat) : Int) 1 != 0) = (((n.1 : Nat) : Int) % 2 == 1) ∧ (bits .and .i64 ((n.1 : Nat) : Int) 2 != 0) = (((n.1 : Nat) : Int) / 2 % 2 == 1) ∧ (bits .and .i64 ((n.1 : Nat) : Int) 4 != 0) = (((n.1 : Nat) : Int) / 4 % 2 == 1) := by decide +kernel
 exact this ⟨n, by omega⟩
theorem lold_rng (n : Int) : 0 ≤ oldN n ∧ oldN n < 8 := by unfold oldN; omega
theorem old_has (n : Int) : (bits .and .i64 (oldN n) 1 != 0) = hasN n 1 ∧ (bits .and .i64 (oldN n) 2 != 0) = hasN n 2 ∧ (bits .and .i64 (oldN n) 4 != 0) = hasN n 4 := by
 obtain ⟨h0, h1⟩ := lold_rng n
 obtain ⟨a, b, c⟩ := old_bits h0 h1
 rw [a, b, c]
 unfold hasN oldN
 refine ⟨?_, ?_, ?_⟩
 ·rw [show max n 0 % 8 % 2 = max n 0 / 1 % 2 by omega]
 ·rw [show max n 0 % 8 / 2 % 2 = max n 0 / 2 % 2 by omega]
 ·rw [show max n 0 % 8 / 4 % 2 = max n 0 / 4 % 2 by omega]
theorem ret_bool {x y : Bool} (h : x = y) : Ending.returned (.bool x) = .returned (.bool y) := by rw [h]
set_option maxRecDepth 100000 in
set_option maxHeartbeats 4000000 in
theorem phas_any (m : Mo) (k : Ky) (e : En) (o d : Int) (q : Bool) (hq : (bits .and .i64 o d != 0) = q) (w : World) : Calls Tryz.prog 80 #[.agg (evC m k e o), .int .i64 d] w fun x w' => x = .returned (.bool q) ∧ Below w.heap.size w w' := by
 have k0 := Blk.new w 106 (evC m k e o)
 have hB : Below w.heap.size w (w.alloc (.cells (evC m k e o) 106)) := (Below.refl _ _).alloc (Nat.le_refl _) _
 have c21 : (w.alloc (.cells (evC m k e o) 106)).cell? ⟨w.heap.size, 21, none⟩ = some (.int .i64 o) := k0.cell 21
 have HQ := Lib.hid hq
 obtain ⟨X, hX⟩ : ∃ X, evC m k e o = X := ⟨_, rfl⟩
 rw [hX] at hB c21 ⊢
 clear k0 hX hq
 go_enter Tryz.func80, Tryz.ntmps80
 go_wp2_with fail
 go_ret
 exact ⟨ret_bool HQ.out, hB⟩
set_option maxRecDepth 100000 in
set_option maxHeartbeats 4000000 in
theorem lput_any {kind f : Int} {l : List Int} {n : Nat} (hn : l.length = n) (f0 : 0 ≤ f) (f1 : f < 256) (hm : mayS (sqN kind f l) = 0) (A : Option Addr) (c : Nat) (w : World) (ht : Tab w) (hr : RdP w A (l.map fun n => [n])) :
 Calls Tryz.prog 139 #[.agg #[.int .i64 kind, .int .u8 0, .slice A n c, .string ⟨#[]⟩, .int .u8 f, .string ⟨#[]⟩]] w (OutC (putS (sqN kind f l)) w) := by
 have hB : Below w.heap.size w (w.alloc (.cells #[.int .i64 kind, .int .u8 0, .slice A n c, .string ⟨#[]⟩, .int .u8 f, .string ⟨#[]⟩] 40)) := (Below.refl _ _).alloc (Nat.le_refl _) _
 have k0 := Blk.new w 40 #[.int .i64 kind, .int .u8 0, .slice A n c, .string ⟨#[]⟩, .int .u8 f, .string ⟨#[]⟩]
 have HP : Hid (∀ W, Tab W → RdP W A (l.map fun n => [n]) → Calls Tryz.prog 74 #[.agg #[.int .i64 kind, .int .u8 0, .slice A n c, .string ⟨#[]⟩, .int .u8 f, .string ⟨#[]⟩]] W (WYes (putS (sqN kind f l)) W)) := Lib.hid fun W hW hR => by
  rw [← sqn_v (kind := kind) hn f0 f1 A c]
  exact pput_yes _ A c W hm hW hR
 clear hm f0 f1 hn
 obtain ⟨L, hL⟩ : ∃ L, putS (sqN kind f l) = L := ⟨_, rfl⟩
 rw [hL] at HP ⊢
 clear hL
 obtain ⟨a0, a1, a2, a3, a4, a5⟩ := Blk.cells6 k0
 go_enter Tryz.func139, Tryz.ntmps139
 go_wp2_with fail
 refine (HP.out _ (ht.below hB) (hr.below hB)).mono ?_
 clear HP
 rintro e w1 ⟨⟨B, d, rfl, hd, hr1⟩, hb1⟩
 go_wp2_with fail
 go_ret
 exact ⟨B, d, rfl, hd, hr1, hB.trans (hb1.mono hB.size)⟩
set_option maxRecDepth 100000 in
set_option maxHeartbeats 4000000 in
theorem lsingle_any (f : Int) (h0 : 64 ≤ f) (h1 : f ≤ 126) (w : World) (ht : Tab w) : Calls Tryz.prog 140 #[.int .u8 f] w (OutC (putS (sqN 2 f [])) w) := by
 have HP : Hid (∀ W, Tab W → Calls Tryz.prog 139 #[.agg #[.int .i64 2, .int .u8 0, .slice none 0 0, .string ⟨#[]⟩, .int .u8 f, .string ⟨#[]⟩]] W (OutC (putS (sqN 2 f [])) W)) := Lib.hid fun W hW =>
  lput_any (kind := 2) (f := f) (l := []) rfl (by omega) (by omega) (may_ss3 h0 h1) none 0 W hW (fun h => absurd h (by simp))
 clear h0 h1
 go_enter Tryz.func140, Tryz.ntmps140
 go_wp2_with fail
 refine (HP.out _ ht).mono ?_
 clear HP
 rintro e w1 ⟨B, d, rfl, hd, hr1, hb1⟩
 go_wp2_with fail
 go_ret
 exact ⟨B, d, rfl, hd, hr1, hb1⟩
end Go.Proofs.YtceipblcdcgljaaGreatDoor
