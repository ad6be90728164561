/-
  Layer 9: the document's own answers: what has no form.
-/
import Derived.Test.YtdfojkbgdoiglaaGreatDoorG10
namespace Go.Proofs.YtdfojkbgdoiglaaGreatDoor
open Go.RowKit
theorem ret_b9 {a b : Bool} (h : a = b) : Ending.returned (.bool a) = .returned (.bool b) := by rw [h]
set_option maxRecDepth 100000 in
set_option maxHeartbeats 8000000 in
theorem ris_any (c : Int) (w : World) : Calls Tryz.prog 54 #[.int .i64 c] w fun e w' => e = .returned (.bool (isPtK c)) ∧ Below w.heap.size w w' := by
 go_enter Tryz.func54, Tryz.ntmps54
 go_wp2
 all_goals
  go_ret
  refine ⟨ret_b9 ?_, Below.refl _ _⟩
  simp [isPtK] at *
  try omega
  try (cases hx : decide (57343 < c) <;> simp_all <;> omega)
set_option maxRecDepth 100000 in
set_option maxHeartbeats 8000000 in
theorem rrest_0 (c : Int) (w : World) (hc : ¬ (c = 9 ∨ c = 13 ∨ c = 27 ∨ c = 127)) (k0 : c < 32) : Calls Tryz.prog 40 #[.int .i64 c] w fun e w' => e = .returned (.int .i64 (restN c)) ∧ Below w.heap.size w w' := by
 have a0 : c < 57358 := by omega
 have a1 : c ≤ 57362 := by omega
 have a2 : c < 57376 := by omega
 have a3 : c ≤ 57398 := by omega
 have a4 : c < 57428 := by omega
 have a5 : c ≤ 57440 := by omega
 have a6 : c < 57441 := by omega
 have a7 : c ≤ 57454 := by omega
 have a8 : c < 32 := by omega
 have a9 : c < 127 := by omega
 have a10 : c ≤ 159 := by omega
 have a11 : c < 57344 := by omega
 have a12 : c ≤ 63743 := by omega
 obtain ⟨q, hq⟩ : ∃ q, isPtK c = q := ⟨_, rfl⟩
 have HI := Lib.hid (ris_any c w)
 rw [hq] at HI
 have E := Lib.hid (show restN c = 0 by unfold restN; rw [if_neg hc, if_neg (by omega), if_neg (by omega), if_pos (by omega)])
 clear hq
 have e0 : (c == 9) = false := by simp; omega
 have e1 : (c == 13) = false := by simp; omega
 have e2 : (c == 27) = false := by simp; omega
 have e3 : (c == 127) = false := by simp; omega
 clear hc k0
 cases q
 all_goals
  go_enter Tryz.func40, Tryz.ntmps40
  go_wp2_with fail
  refine HI.out.mono ?_
  rintro e w1 ⟨rfl, hb⟩
  go_wp2_with fail
  go_ret
  exact ⟨by rw [E.out]; rfl, hb⟩
set_option maxRecDepth 100000 in
set_option maxHeartbeats 8000000 in
theorem rrest_1 (c : Int) (w : World) (hc : ¬ (c = 9 ∨ c = 13 ∨ c = 27 ∨ c = 127)) (k0 : 32 ≤ c) (k1 : c < 127) : Calls Tryz.prog 40 #[.int .i64 c] w fun e w' => e = .returned (.int .i64 (restN c)) ∧ Below w.heap.size w w' := by
 have a0 : c < 57358 := by omega
 have a1 : c ≤ 57362 := by omega
 have a2 : c < 57376 := by omega
 have a3 : c ≤ 57398 := by omega
 have a4 : c < 57428 := by omega
 have a5 : c ≤ 57440 := by omega
 have a6 : c < 57441 := by omega
 have a7 : c ≤ 57454 := by omega
 have a8 : 32 ≤ c := by omega
 have a9 : c < 127 := by omega
 have a10 : c ≤ 159 := by omega
 have a11 : c < 57344 := by omega
 have a12 : c ≤ 63743 := by omega
 obtain ⟨q, hq⟩ : ∃ q, isPtK c = q := ⟨_, rfl⟩
 have HI := Lib.hid (ris_any c w)
 rw [hq] at HI
 have E := Lib.hid (show restN c = (if q = false then 0 else 1) by
  unfold restN
  rw [if_neg hc, if_neg (by omega), if_neg (by omega), hq]
  cases q
  ·rw [if_pos (.inl rfl), if_pos rfl]
  ·rw [if_neg (by simp; omega), if_neg (by decide)])
 clear hq
 have e0 : (c == 9) = false := by simp; omega
 have e1 : (c == 13) = false := by simp; omega
 have e2 : (c == 27) = false := by simp; omega
 have e3 : (c == 127) = false := by simp; omega
 clear hc k0 k1
 cases q
 all_goals
  go_enter Tryz.func40, Tryz.ntmps40
  go_wp2_with fail
  refine HI.out.mono ?_
  rintro e w1 ⟨rfl, hb⟩
  go_wp2_with fail
  go_ret
  exact ⟨by rw [E.out]; rfl, hb⟩
set_option maxRecDepth 100000 in
set_option maxHeartbeats 8000000 in
theorem rrest_2 (c : Int) (w : World) (hc : ¬ (c = 9 ∨ c = 13 ∨ c = 27 ∨ c = 127)) (k0 : 127 ≤ c) (k1 : c < 160) : Calls Tryz.prog 40 #[.int .i64 c] w fun e w' => e = .returned (.int .i64 (restN c)) ∧ Below w.heap.size w w' := by
 have a0 : c < 57358 := by omega
 have a1 : c ≤ 57362 := by omega
 have a2 : c < 57376 := by omega
 have a3 : c ≤ 57398 := by omega
 have a4 : c < 57428 := by omega
 have a5 : c ≤ 57440 := by omega
 have a6 : c < 57441 := by omega
 have a7 : c ≤ 57454 := by omega
 have a8 : 32 ≤ c := by omega
 have a9 : 127 ≤ c := by omega
 have a10 : c ≤ 159 := by omega
 have a11 : c < 57344 := by omega
 have a12 : c ≤ 63743 := by omega
 obtain ⟨q, hq⟩ : ∃ q, isPtK c = q := ⟨_, rfl⟩
 have HI := Lib.hid (ris_any c w)
 rw [hq] at HI
 have E := Lib.hid (show restN c = 0 by unfold restN; rw [if_neg hc, if_neg (by omega), if_neg (by omega), if_pos (by omega)])
 clear hq
 have e0 : (c == 9) = false := by simp; omega
 have e1 : (c == 13) = false := by simp; omega
 have e2 : (c == 27) = false := by simp; omega
 have e3 : (c == 127) = false := by simp; omega
 clear hc k0 k1
 cases q
 all_goals
  go_enter Tryz.func40, Tryz.ntmps40
  go_wp2_with fail
  refine HI.out.mono ?_
  rintro e w1 ⟨rfl, hb⟩
  go_wp2_with fail
  go_ret
  exact ⟨by rw [E.out]; rfl, hb⟩
set_option maxRecDepth 100000 in
set_option maxHeartbeats 8000000 in
theorem rrest_3 (c : Int) (w : World) (hc : ¬ (c = 9 ∨ c = 13 ∨ c = 27 ∨ c = 127)) (k0 : 160 ≤ c) (k1 : c < 57344) : Calls Tryz.prog 40 #[.int .i64 c] w fun e w' => e = .returned (.int .i64 (restN c)) ∧ Below w.heap.size w w' := by
 have a0 : c < 57358 := by omega
 have a1 : c ≤ 57362 := by omega
 have a2 : c < 57376 := by omega
 have a3 : c ≤ 57398 := by omega
 have a4 : c < 57428 := by omega
 have a5 : c ≤ 57440 := by omega
 have a6 : c < 57441 := by omega
 have a7 : c ≤ 57454 := by omega
 have a8 : 32 ≤ c := by omega
 have a9 : 127 ≤ c := by omega
 have a10 : 159 < c := by omega
 have a11 : c < 57344 := by omega
 have a12 : c ≤ 63743 := by omega
 obtain ⟨q, hq⟩ : ∃ q, isPtK c = q := ⟨_, rfl⟩
 have HI := Lib.hid (ris_any c w)
 rw [hq] at HI
 have E := Lib.hid (show restN c = (if q = false then 0 else 1) by
  unfold restN
  rw [if_neg hc, if_neg (by omega), if_neg (by omega), hq]
  cases q
  ·rw [if_pos (.inl rfl), if_pos rfl]
  ·rw [if_neg (by simp; omega), if_neg (by decide)])
 clear hq
 have e0 : (c == 9) = false := by simp; omega
 have e1 : (c == 13) = false := by simp; omega
 have e2 : (c == 27) = false := by simp; omega
 have e3 : (c == 127) = false := by simp; omega
 clear hc k0 k1
 cases q
 all_goals
  go_enter Tryz.func40, Tryz.ntmps40
  go_wp2_with fail
  refine HI.out.mono ?_
  rintro e w1 ⟨rfl, hb⟩
  go_wp2_with fail
  go_ret
  exact ⟨by rw [E.out]; rfl, hb⟩
set_option maxRecDepth 100000 in
set_option maxHeartbeats 8000000 in
theorem rrest_4 (c : Int) (w : World) (hc : ¬ (c = 9 ∨ c = 13 ∨ c = 27 ∨ c = 127)) (k0 : 57344 ≤ c) (k1 : c < 57358) : Calls Tryz.prog 40 #[.int .i64 c] w fun e w' => e = .returned (.int .i64 (restN c)) ∧ Below w.heap.size w w' := by
 have a0 : c < 57358 := by omega
 have a1 : c ≤ 57362 := by omega
 have a2 : c < 57376 := by omega
 have a3 : c ≤ 57398 := by omega
 have a4 : c < 57428 := by omega
 have a5 : c ≤ 57440 := by omega
 have a6 : c < 57441 := by omega
 have a7 : c ≤ 57454 := by omega
 have a8 : 32 ≤ c := by omega
 have a9 : 127 ≤ c := by omega
 have a10 : 159 < c := by omega
 have a11 : 57344 ≤ c := by omega
 have a12 : c ≤ 63743 := by omega
 obtain ⟨q, hq⟩ : ∃ q, isPtK c = q := ⟨_, rfl⟩
 have HI := Lib.hid (ris_any c w)
 rw [hq] at HI
 have E := Lib.hid (show restN c = 0 by unfold restN; rw [if_neg hc, if_neg (by omega), if_neg (by omega), if_pos (by omega)])
 clear hq
 have e0 : (c == 9) = false := by simp; omega
 have e1 : (c == 13) = false := by simp; omega
 have e2 : (c == 27) = false := by simp; omega
 have e3 : (c == 127) = false := by simp; omega
 clear hc k0 k1
 cases q
 all_goals
  go_enter Tryz.func40, Tryz.ntmps40
  go_wp2_with fail
  refine HI.out.mono ?_
  rintro e w1 ⟨rfl, hb⟩
  go_wp2_with fail
  go_ret
  exact ⟨by rw [E.out]; rfl, hb⟩
set_option maxRecDepth 100000 in
set_option maxHeartbeats 8000000 in
theorem rrest_5 (c : Int) (w : World) (hc : ¬ (c = 9 ∨ c = 13 ∨ c = 27 ∨ c = 127)) (k0 : 57358 ≤ c) (k1 : c < 57363) : Calls Tryz.prog 40 #[.int .i64 c] w fun e w' => e = .returned (.int .i64 (restN c)) ∧ Below w.heap.size w w' := by
 have a0 : 57358 ≤ c := by omega
 have a1 : c ≤ 57362 := by omega
 have a2 : c < 57376 := by omega
 have a3 : c ≤ 57398 := by omega
 have a4 : c < 57428 := by omega
 have a5 : c ≤ 57440 := by omega
 have a6 : c < 57441 := by omega
 have a7 : c ≤ 57454 := by omega
 have a8 : 32 ≤ c := by omega
 have a9 : 127 ≤ c := by omega
 have a10 : 159 < c := by omega
 have a11 : 57344 ≤ c := by omega
 have a12 : c ≤ 63743 := by omega
 have E := Lib.hid (show restN c = 6 by unfold restN; rw [if_neg hc, if_pos (by omega)])
 have e0 : (c == 9) = false := by simp; omega
 have e1 : (c == 13) = false := by simp; omega
 have e2 : (c == 27) = false := by simp; omega
 have e3 : (c == 127) = false := by simp; omega
 clear hc k0 k1
 go_enter Tryz.func40, Tryz.ntmps40
 go_wp2_with fail
 go_ret
 exact ⟨by rw [E.out]; rfl, Below.refl _ _⟩
set_option maxRecDepth 100000 in
set_option maxHeartbeats 8000000 in
theorem rrest_6 (c : Int) (w : World) (hc : ¬ (c = 9 ∨ c = 13 ∨ c = 27 ∨ c = 127)) (k0 : 57363 ≤ c) (k1 : c < 57376) : Calls Tryz.prog 40 #[.int .i64 c] w fun e w' => e = .returned (.int .i64 (restN c)) ∧ Below w.heap.size w w' := by
 have a0 : 57358 ≤ c := by omega
 have a1 : 57362 < c := by omega
 have a2 : c < 57376 := by omega
 have a3 : c ≤ 57398 := by omega
 have a4 : c < 57428 := by omega
 have a5 : c ≤ 57440 := by omega
 have a6 : c < 57441 := by omega
 have a7 : c ≤ 57454 := by omega
 have a8 : 32 ≤ c := by omega
 have a9 : 127 ≤ c := by omega
 have a10 : 159 < c := by omega
 have a11 : 57344 ≤ c := by omega
 have a12 : c ≤ 63743 := by omega
 obtain ⟨q, hq⟩ : ∃ q, isPtK c = q := ⟨_, rfl⟩
 have HI := Lib.hid (ris_any c w)
 rw [hq] at HI
 have E := Lib.hid (show restN c = 0 by unfold restN; rw [if_neg hc, if_neg (by omega), if_neg (by omega), if_pos (by omega)])
 clear hq
 have e0 : (c == 9) = false := by simp; omega
 have e1 : (c == 13) = false := by simp; omega
 have e2 : (c == 27) = false := by simp; omega
 have e3 : (c == 127) = false := by simp; omega
 clear hc k0 k1
 cases q
 all_goals
  go_enter Tryz.func40, Tryz.ntmps40
  go_wp2_with fail
  refine HI.out.mono ?_
  rintro e w1 ⟨rfl, hb⟩
  go_wp2_with fail
  go_ret
  exact ⟨by rw [E.out]; rfl, hb⟩
set_option maxRecDepth 100000 in
set_option maxHeartbeats 8000000 in
theorem rrest_7 (c : Int) (w : World) (hc : ¬ (c = 9 ∨ c = 13 ∨ c = 27 ∨ c = 127)) (k0 : 57376 ≤ c) (k1 : c < 57399) : Calls Tryz.prog 40 #[.int .i64 c] w fun e w' => e = .returned (.int .i64 (restN c)) ∧ Below w.heap.size w w' := by
 have a0 : 57358 ≤ c := by omega
 have a1 : 57362 < c := by omega
 have a2 : 57376 ≤ c := by omega
 have a3 : c ≤ 57398 := by omega
 have a4 : c < 57428 := by omega
 have a5 : c ≤ 57440 := by omega
 have a6 : c < 57441 := by omega
 have a7 : c ≤ 57454 := by omega
 have a8 : 32 ≤ c := by omega
 have a9 : 127 ≤ c := by omega
 have a10 : 159 < c := by omega
 have a11 : 57344 ≤ c := by omega
 have a12 : c ≤ 63743 := by omega
 have E := Lib.hid (show restN c = 6 by unfold restN; rw [if_neg hc, if_pos (by omega)])
 have e0 : (c == 9) = false := by simp; omega
 have e1 : (c == 13) = false := by simp; omega
 have e2 : (c == 27) = false := by simp; omega
 have e3 : (c == 127) = false := by simp; omega
 clear hc k0 k1
 go_enter Tryz.func40, Tryz.ntmps40
 go_wp2_with fail
 go_ret
 exact ⟨by rw [E.out]; rfl, Below.refl _ _⟩
set_option maxRecDepth 100000 in
set_option maxHeartbeats 8000000 in
theorem rrest_8 (c : Int) (w : World) (hc : ¬ (c = 9 ∨ c = 13 ∨ c = 27 ∨ c = 127)) (k0 : 57399 ≤ c) (k1 : c < 57428) : Calls Tryz.prog 40 #[.int .i64 c] w fun e w' => e = .returned (.int .i64 (restN c)) ∧ Below w.heap.size w w' := by
 have a0 : 57358 ≤ c := by omega
 have a1 : 57362 < c := by omega
 have a2 : 57376 ≤ c := by omega
 have a3 : 57398 < c := by omega
 have a4 : c < 57428 := by omega
 have a5 : c ≤ 57440 := by omega
 have a6 : c < 57441 := by omega
 have a7 : c ≤ 57454 := by omega
 have a8 : 32 ≤ c := by omega
 have a9 : 127 ≤ c := by omega
 have a10 : 159 < c := by omega
 have a11 : 57344 ≤ c := by omega
 have a12 : c ≤ 63743 := by omega
 obtain ⟨q, hq⟩ : ∃ q, isPtK c = q := ⟨_, rfl⟩
 have HI := Lib.hid (ris_any c w)
 rw [hq] at HI
 have E := Lib.hid (show restN c = 0 by unfold restN; rw [if_neg hc, if_neg (by omega), if_neg (by omega), if_pos (by omega)])
 clear hq
 have e0 : (c == 9) = false := by simp; omega
 have e1 : (c == 13) = false := by simp; omega
 have e2 : (c == 27) = false := by simp; omega
 have e3 : (c == 127) = false := by simp; omega
 clear hc k0 k1
 cases q
 all_goals
  go_enter Tryz.func40, Tryz.ntmps40
  go_wp2_with fail
  refine HI.out.mono ?_
  rintro e w1 ⟨rfl, hb⟩
  go_wp2_with fail
  go_ret
  exact ⟨by rw [E.out]; rfl, hb⟩
set_option maxRecDepth 100000 in
set_option maxHeartbeats 8000000 in
theorem rrest_9 (c : Int) (w : World) (hc : ¬ (c = 9 ∨ c = 13 ∨ c = 27 ∨ c = 127)) (k0 : 57428 ≤ c) (k1 : c < 57441) : Calls Tryz.prog 40 #[.int .i64 c] w fun e w' => e = .returned (.int .i64 (restN c)) ∧ Below w.heap.size w w' := by
 have a0 : 57358 ≤ c := by omega
 have a1 : 57362 < c := by omega
 have a2 : 57376 ≤ c := by omega
 have a3 : 57398 < c := by omega
 have a4 : 57428 ≤ c := by omega
 have a5 : c ≤ 57440 := by omega
 have a6 : c < 57441 := by omega
 have a7 : c ≤ 57454 := by omega
 have a8 : 32 ≤ c := by omega
 have a9 : 127 ≤ c := by omega
 have a10 : 159 < c := by omega
 have a11 : 57344 ≤ c := by omega
 have a12 : c ≤ 63743 := by omega
 have E := Lib.hid (show restN c = 6 by unfold restN; rw [if_neg hc, if_pos (by omega)])
 have e0 : (c == 9) = false := by simp; omega
 have e1 : (c == 13) = false := by simp; omega
 have e2 : (c == 27) = false := by simp; omega
 have e3 : (c == 127) = false := by simp; omega
 clear hc k0 k1
 go_enter Tryz.func40, Tryz.ntmps40
 go_wp2_with fail
 go_ret
 exact ⟨by rw [E.out]; rfl, Below.refl _ _⟩
set_option maxRecDepth 100000 in
set_option maxHeartbeats 8000000 in
theorem rrest_10 (c : Int) (w : World) (hc : ¬ (c = 9 ∨ c = 13 ∨ c = 27 ∨ c = 127)) (k0 : 57441 ≤ c) (k1 : c < 57455) : Calls Tryz.prog 40 #[.int .i64 c] w fun e w' => e = .returned (.int .i64 (restN c)) ∧ Below w.heap.size w w' := by
 have a0 : 57358 ≤ c := by omega
 have a1 : 57362 < c := by omega
 have a2 : 57376 ≤ c := by omega
 have a3 : 57398 < c := by omega
 have a4 : 57428 ≤ c := by omega
 have a5 : 57440 < c := by omega
 have a6 : 57441 ≤ c := by omega
 have a7 : c ≤ 57454 := by omega
 have a8 : 32 ≤ c := by omega
 have a9 : 127 ≤ c := by omega
 have a10 : 159 < c := by omega
 have a11 : 57344 ≤ c := by omega
 have a12 : c ≤ 63743 := by omega
 have E := Lib.hid (show restN c = 7 by unfold restN; rw [if_neg hc, if_neg (by omega), if_pos (by omega)])
 have e0 : (c == 9) = false := by simp; omega
 have e1 : (c == 13) = false := by simp; omega
 have e2 : (c == 27) = false := by simp; omega
 have e3 : (c == 127) = false := by simp; omega
 clear hc k0 k1
 go_enter Tryz.func40, Tryz.ntmps40
 go_wp2_with fail
 go_ret
 exact ⟨by rw [E.out]; rfl, Below.refl _ _⟩
set_option maxRecDepth 100000 in
set_option maxHeartbeats 8000000 in
theorem rrest_11 (c : Int) (w : World) (hc : ¬ (c = 9 ∨ c = 13 ∨ c = 27 ∨ c = 127)) (k0 : 57455 ≤ c) (k1 : c < 63744) : Calls Tryz.prog 40 #[.int .i64 c] w fun e w' => e = .returned (.int .i64 (restN c)) ∧ Below w.heap.size w w' := by
 have a0 : 57358 ≤ c := by omega
 have a1 : 57362 < c := by omega
 have a2 : 57376 ≤ c := by omega
 have a3 : 57398 < c := by omega
 have a4 : 57428 ≤ c := by omega
 have a5 : 57440 < c := by omega
 have a6 : 57441 ≤ c := by omega
 have a7 : 57454 < c := by omega
 have a8 : 32 ≤ c := by omega
 have a9 : 127 ≤ c := by omega
 have a10 : 159 < c := by omega
 have a11 : 57344 ≤ c := by omega
 have a12 : c ≤ 63743 := by omega
 obtain ⟨q, hq⟩ : ∃ q, isPtK c = q := ⟨_, rfl⟩
 have HI := Lib.hid (ris_any c w)
 rw [hq] at HI
 have E := Lib.hid (show restN c = 0 by unfold restN; rw [if_neg hc, if_neg (by omega), if_neg (by omega), if_pos (by omega)])
 clear hq
 have e0 : (c == 9) = false := by simp; omega
 have e1 : (c == 13) = false := by simp; omega
 have e2 : (c == 27) = false := by simp; omega
 have e3 : (c == 127) = false := by simp; omega
 clear hc k0 k1
 cases q
 all_goals
  go_enter Tryz.func40, Tryz.ntmps40
  go_wp2_with fail
  refine HI.out.mono ?_
  rintro e w1 ⟨rfl, hb⟩
  go_wp2_with fail
  go_ret
  exact ⟨by rw [E.out]; rfl, hb⟩
set_option maxRecDepth 100000 in
set_option maxHeartbeats 8000000 in
theorem rrest_12 (c : Int) (w : World) (hc : ¬ (c = 9 ∨ c = 13 ∨ c = 27 ∨ c = 127)) (k0 : 63744 ≤ c) : Calls Tryz.prog 40 #[.int .i64 c] w fun e w' => e = .returned (.int .i64 (restN c)) ∧ Below w.heap.size w w' := by
 have a0 : 57358 ≤ c := by omega
 have a1 : 57362 < c := by omega
 have a2 : 57376 ≤ c := by omega
 have a3 : 57398 < c := by omega
 have a4 : 57428 ≤ c := by omega
 have a5 : 57440 < c := by omega
 have a6 : 57441 ≤ c := by omega
 have a7 : 57454 < c := by omega
 have a8 : 32 ≤ c := by omega
 have a9 : 127 ≤ c := by omega
 have a10 : 159 < c := by omega
 have a11 : 57344 ≤ c := by omega
 have a12 : 63743 < c := by omega
 obtain ⟨q, hq⟩ : ∃ q, isPtK c = q := ⟨_, rfl⟩
 have HI := Lib.hid (ris_any c w)
 rw [hq] at HI
 have E := Lib.hid (show restN c = (if q = false then 0 else 1) by
  unfold restN
  rw [if_neg hc, if_neg (by omega), if_neg (by omega), hq]
  cases q
  ·rw [if_pos (.inl rfl), if_pos rfl]
  ·rw [if_neg (by simp; omega), if_neg (by decide)])
 clear hq
 have e0 : (c == 9) = false := by simp; omega
 have e1 : (c == 13) = false := by simp; omega
 have e2 : (c == 27) = false := by simp; omega
 have e3 : (c == 127) = false := by simp; omega
 clear hc k0
 cases q
 all_goals
  go_enter Tryz.func40, Tryz.ntmps40
  go_wp2_with fail
  refine HI.out.mono ?_
  rintro e w1 ⟨rfl, hb⟩
  go_wp2_with fail
  go_ret
  exact ⟨by rw [E.out]; rfl, hb⟩
set_option maxRecDepth 100000 in
theorem rrest_any (c : Int) (w : World) : Calls Tryz.prog 40 #[.int .i64 c] w fun e w' => e = .returned (.int .i64 (restN c)) ∧ Below w.heap.size w w' := by
 by_cases hc : c = 9 ∨ c = 13 ∨ c = 27 ∨ c = 127
 ·have E := Lib.hid (show restN c = 2 by unfold restN; rw [if_pos hc])
  rcases hc with rfl | rfl | rfl | rfl
  all_goals
   go_enter Tryz.func40, Tryz.ntmps40
   go_wp2_with fail
   go_ret
   exact ⟨by rw [E.out]; rfl, Below.refl _ _⟩
 by_cases h0 : c < 32
 ·exact rrest_0 c w hc h0
 by_cases h1 : c < 127
 ·exact rrest_1 c w hc (by omega) h1
 by_cases h2 : c < 160
 ·exact rrest_2 c w hc (by omega) h2
 by_cases h3 : c < 57344
 ·exact rrest_3 c w hc (by omega) h3
 by_cases h4 : c < 57358
 ·exact rrest_4 c w hc (by omega) h4
 by_cases h5 : c < 57363
 ·exact rrest_5 c w hc (by omega) h5
 by_cases h6 : c < 57376
 ·exact rrest_6 c w hc (by omega) h6
 by_cases h7 : c < 57399
 ·exact rrest_7 c w hc (by omega) h7
 by_cases h8 : c < 57428
 ·exact rrest_8 c w hc (by omega) h8
 by_cases h9 : c < 57441
 ·exact rrest_9 c w hc (by omega) h9
 by_cases h10 : c < 57455
 ·exact rrest_10 c w hc (by omega) h10
 by_cases h11 : c < 63744
 ·exact rrest_11 c w hc (by omega) h11
 exact rrest_12 c w hc (by omega)
end Go.Proofs.YtdfojkbgdoiglaaGreatDoor
