/-
  Layer 10, walked: the document's Fold. Layer 9: the document's own answers: what has no form. Layer 9: the document's own answers: the pad, and Look.
-/
import Derived.Test.YtmagokkegadmiaaGreatDoorG03
import Derived.Test.YtmagokkegadmiaaGreatDoorG09
import Derived.Test.YtmagokkegadmiaaGreatDoorG10
import Derived.Test.YtmagokkegadmiaaGreatDoorG15
namespace Go.Proofs.YtmagokkegadmiaaGreatDoor
open Go.RowKit

set_option maxRecDepth 100000 in
set_option maxHeartbeats 4000000 in
theorem rfold_any (c : Int) (w : World) : Calls Tryz.prog 51 #[.int .i64 c] w fun e w' => e = .returned (.tuple #[.int .i64 (foldN c).1, .bool (foldN c).2]) ∧ Below w.heap.size w w' := by
  have hcut : (c ≤ 31) ∨ (32 ≤ c ∧ c ≤ 32) ∨ (33 ≤ c ∧ c ≤ 46) ∨ (47 ≤ c ∧ c ≤ 47) ∨ (48 ≤ c ∧ c ≤ 49) ∨ (50 ≤ c ∧ c ≤ 50) ∨ (51 ≤ c ∧ c ≤ 55) ∨ (56 ≤ c ∧ c ≤ 56) ∨ (57 ≤ c ∧ c ≤ 62) ∨ (63 ≤ c ∧ c ≤ 63) ∨ (64 ≤ c ∧ c ≤ 64) ∨ (65 ≤ c ∧ c ≤ 95) ∨ (96 ≤ c ∧ c ≤ 96) ∨ (97 ≤ c ∧ c ≤ 122) ∨ (123 ≤ c) := by omega
  rcases hcut with h | h | h | h | h | h | h | h | h | h | h | h | h | h | h
  · have HE := Lib.hid (show foldN c = (0, false) by unfold foldN; (repeat' split) <;> first | rfl | (exfalso; omega))
    rw [HE.out]
    have e32 : (c == 32) = false := by simp; omega
    have e50 : (c == 50) = false := by simp; omega
    have e64 : (c == 64) = false := by simp; omega
    have e47 : (c == 47) = false := by simp; omega
    have e56 : (c == 56) = false := by simp; omega
    have e63 : (c == 63) = false := by simp; omega
    have l97 : c < 97 := by omega
    have l122 : c ≤ 122 := by omega
    have l65 : c < 65 := by omega
    have l95 : c ≤ 95 := by omega
    have l51 : c < 51 := by omega
    have l55 : c ≤ 55 := by omega
    clear HE h
    go_enter Tryz.func51, Tryz.ntmps51
    go_wp2
    go_ret2
    exact ⟨rfl, by first | exact Below.refl _ _ | exact below_drewN (Below.refl _ _) _⟩
  · have HE := Lib.hid (show foldN c = (0, true) by unfold foldN; (repeat' split) <;> first | rfl | (exfalso; omega))
    rw [HE.out]
    obtain rfl : c = 32 := by omega
    clear HE h
    go_enter Tryz.func51, Tryz.ntmps51
    go_wp2
    go_ret2
    exact ⟨rfl, by first | exact Below.refl _ _ | exact below_drewN (Below.refl _ _) _⟩
  · have HE := Lib.hid (show foldN c = (0, false) by unfold foldN; (repeat' split) <;> first | rfl | (exfalso; omega))
    rw [HE.out]
    have e32 : (c == 32) = false := by simp; omega
    have e50 : (c == 50) = false := by simp; omega
    have e64 : (c == 64) = false := by simp; omega
    have e47 : (c == 47) = false := by simp; omega
    have e56 : (c == 56) = false := by simp; omega
    have e63 : (c == 63) = false := by simp; omega
    have l97 : c < 97 := by omega
    have l122 : c ≤ 122 := by omega
    have l65 : c < 65 := by omega
    have l95 : c ≤ 95 := by omega
    have l51 : c < 51 := by omega
    have l55 : c ≤ 55 := by omega
    clear HE h
    go_enter Tryz.func51, Tryz.ntmps51
    go_wp2
    go_ret2
    exact ⟨rfl, by first | exact Below.refl _ _ | exact below_drewN (Below.refl _ _) _⟩
  · have HE := Lib.hid (show foldN c = (31, true) by unfold foldN; (repeat' split) <;> first | rfl | (exfalso; omega))
    rw [HE.out]
    obtain rfl : c = 47 := by omega
    clear HE h
    go_enter Tryz.func51, Tryz.ntmps51
    go_wp2
    go_ret2
    exact ⟨rfl, by first | exact Below.refl _ _ | exact below_drewN (Below.refl _ _) _⟩
  · have HE := Lib.hid (show foldN c = (0, false) by unfold foldN; (repeat' split) <;> first | rfl | (exfalso; omega))
    rw [HE.out]
    have e32 : (c == 32) = false := by simp; omega
    have e50 : (c == 50) = false := by simp; omega
    have e64 : (c == 64) = false := by simp; omega
    have e47 : (c == 47) = false := by simp; omega
    have e56 : (c == 56) = false := by simp; omega
    have e63 : (c == 63) = false := by simp; omega
    have l97 : c < 97 := by omega
    have l122 : c ≤ 122 := by omega
    have l65 : c < 65 := by omega
    have l95 : c ≤ 95 := by omega
    have l51 : c < 51 := by omega
    have l55 : c ≤ 55 := by omega
    clear HE h
    go_enter Tryz.func51, Tryz.ntmps51
    go_wp2
    go_ret2
    exact ⟨rfl, by first | exact Below.refl _ _ | exact below_drewN (Below.refl _ _) _⟩
  · have HE := Lib.hid (show foldN c = (0, true) by unfold foldN; (repeat' split) <;> first | rfl | (exfalso; omega))
    rw [HE.out]
    obtain rfl : c = 50 := by omega
    clear HE h
    go_enter Tryz.func51, Tryz.ntmps51
    go_wp2
    go_ret2
    exact ⟨rfl, by first | exact Below.refl _ _ | exact below_drewN (Below.refl _ _) _⟩
  · have HE := Lib.hid (show foldN c = (27 + c - 51, true) by unfold foldN; (repeat' split) <;> first | rfl | (exfalso; omega))
    rw [HE.out]
    have e32 : (c == 32) = false := by simp; omega
    have e50 : (c == 50) = false := by simp; omega
    have e64 : (c == 64) = false := by simp; omega
    have e47 : (c == 47) = false := by simp; omega
    have e56 : (c == 56) = false := by simp; omega
    have e63 : (c == 63) = false := by simp; omega
    have l97 : c < 97 := by omega
    have l122 : c ≤ 122 := by omega
    have l65 : c < 65 := by omega
    have l95 : c ≤ 95 := by omega
    have l51 : 51 ≤ c := by omega
    have l55 : c ≤ 55 := by omega
    clear HE h
    go_enter Tryz.func51, Tryz.ntmps51
    go_wp2
    go_ret2
    exact ⟨rfl, by first | exact Below.refl _ _ | exact below_drewN (Below.refl _ _) _⟩
  · have HE := Lib.hid (show foldN c = (127, true) by unfold foldN; (repeat' split) <;> first | rfl | (exfalso; omega))
    rw [HE.out]
    obtain rfl : c = 56 := by omega
    clear HE h
    go_enter Tryz.func51, Tryz.ntmps51
    go_wp2
    go_ret2
    exact ⟨rfl, by first | exact Below.refl _ _ | exact below_drewN (Below.refl _ _) _⟩
  · have HE := Lib.hid (show foldN c = (0, false) by unfold foldN; (repeat' split) <;> first | rfl | (exfalso; omega))
    rw [HE.out]
    have e32 : (c == 32) = false := by simp; omega
    have e50 : (c == 50) = false := by simp; omega
    have e64 : (c == 64) = false := by simp; omega
    have e47 : (c == 47) = false := by simp; omega
    have e56 : (c == 56) = false := by simp; omega
    have e63 : (c == 63) = false := by simp; omega
    have l97 : c < 97 := by omega
    have l122 : c ≤ 122 := by omega
    have l65 : c < 65 := by omega
    have l95 : c ≤ 95 := by omega
    have l51 : 51 ≤ c := by omega
    have l55 : 55 < c := by omega
    clear HE h
    go_enter Tryz.func51, Tryz.ntmps51
    go_wp2
    go_ret2
    exact ⟨rfl, by first | exact Below.refl _ _ | exact below_drewN (Below.refl _ _) _⟩
  · have HE := Lib.hid (show foldN c = (127, true) by unfold foldN; (repeat' split) <;> first | rfl | (exfalso; omega))
    rw [HE.out]
    obtain rfl : c = 63 := by omega
    clear HE h
    go_enter Tryz.func51, Tryz.ntmps51
    go_wp2
    go_ret2
    exact ⟨rfl, by first | exact Below.refl _ _ | exact below_drewN (Below.refl _ _) _⟩
  · have HE := Lib.hid (show foldN c = (0, true) by unfold foldN; (repeat' split) <;> first | rfl | (exfalso; omega))
    rw [HE.out]
    obtain rfl : c = 64 := by omega
    clear HE h
    go_enter Tryz.func51, Tryz.ntmps51
    go_wp2
    go_ret2
    exact ⟨rfl, by first | exact Below.refl _ _ | exact below_drewN (Below.refl _ _) _⟩
  · have HE := Lib.hid (show foldN c = (c - 64, true) by unfold foldN; (repeat' split) <;> first | rfl | (exfalso; omega))
    rw [HE.out]
    have e32 : (c == 32) = false := by simp; omega
    have e50 : (c == 50) = false := by simp; omega
    have e64 : (c == 64) = false := by simp; omega
    have e47 : (c == 47) = false := by simp; omega
    have e56 : (c == 56) = false := by simp; omega
    have e63 : (c == 63) = false := by simp; omega
    have l97 : c < 97 := by omega
    have l122 : c ≤ 122 := by omega
    have l65 : 65 ≤ c := by omega
    have l95 : c ≤ 95 := by omega
    have l51 : 51 ≤ c := by omega
    have l55 : 55 < c := by omega
    clear HE h
    go_enter Tryz.func51, Tryz.ntmps51
    go_wp2
    go_ret2
    exact ⟨rfl, by first | exact Below.refl _ _ | exact below_drewN (Below.refl _ _) _⟩
  · have HE := Lib.hid (show foldN c = (0, false) by unfold foldN; (repeat' split) <;> first | rfl | (exfalso; omega))
    rw [HE.out]
    obtain rfl : c = 96 := by omega
    clear HE h
    go_enter Tryz.func51, Tryz.ntmps51
    go_wp2
    go_ret2
    exact ⟨rfl, by first | exact Below.refl _ _ | exact below_drewN (Below.refl _ _) _⟩
  · have HE := Lib.hid (show foldN c = (c - 96, true) by unfold foldN; (repeat' split) <;> first | rfl | (exfalso; omega))
    rw [HE.out]
    have e32 : (c == 32) = false := by simp; omega
    have e50 : (c == 50) = false := by simp; omega
    have e64 : (c == 64) = false := by simp; omega
    have e47 : (c == 47) = false := by simp; omega
    have e56 : (c == 56) = false := by simp; omega
    have e63 : (c == 63) = false := by simp; omega
    have l97 : 97 ≤ c := by omega
    have l122 : c ≤ 122 := by omega
    have l65 : 65 ≤ c := by omega
    have l95 : 95 < c := by omega
    have l51 : 51 ≤ c := by omega
    have l55 : 55 < c := by omega
    clear HE h
    go_enter Tryz.func51, Tryz.ntmps51
    go_wp2
    go_ret2
    exact ⟨rfl, by first | exact Below.refl _ _ | exact below_drewN (Below.refl _ _) _⟩
  · have HE := Lib.hid (show foldN c = (0, false) by unfold foldN; (repeat' split) <;> first | rfl | (exfalso; omega))
    rw [HE.out]
    have e32 : (c == 32) = false := by simp; omega
    have e50 : (c == 50) = false := by simp; omega
    have e64 : (c == 64) = false := by simp; omega
    have e47 : (c == 47) = false := by simp; omega
    have e56 : (c == 56) = false := by simp; omega
    have e63 : (c == 63) = false := by simp; omega
    have l97 : 97 ≤ c := by omega
    have l122 : 122 < c := by omega
    have l65 : 65 ≤ c := by omega
    have l95 : 95 < c := by omega
    have l51 : 51 ≤ c := by omega
    have l55 : 55 < c := by omega
    clear HE h
    go_enter Tryz.func51, Tryz.ntmps51
    go_wp2
    go_ret2
    exact ⟨rfl, by first | exact Below.refl _ _ | exact below_drewN (Below.refl _ _) _⟩
end Go.Proofs.YtmagokkegadmiaaGreatDoor
namespace Go.Proofs.YtmagokkegadmiaaGreatDoor
open Go.RowKit

theorem ret_b9 {a b : Bool} (h : a = b) : Ending.returned (.bool a) = .returned (.bool b) := by rw [h]
set_option maxRecDepth 100000 in
set_option maxHeartbeats 8000000 in
theorem ris_any (c : Int) (w : World) : Calls Tryz.prog 73 #[.int .i64 c] w fun e w' => e = .returned (.bool (isPtK c)) ∧ Below w.heap.size w w' := by
  go_enter Tryz.func73, Tryz.ntmps73
  go_wp2
  all_goals
    go_ret
    refine ⟨ret_b9 ?_, Below.refl _ _⟩
    simp [isPtK] at *
    try omega
    try (cases hx : decide (57343 < c) <;> simp_all <;> omega)
set_option maxRecDepth 100000 in
set_option maxHeartbeats 8000000 in
theorem rrest_0 (c : Int) (w : World) (hc : ¬ (c = 9 ∨ c = 13 ∨ c = 27 ∨ c = 127)) (k0 : c < 32) : Calls Tryz.prog 50 #[.int .i64 c] w fun e w' => e = .returned (.int .i64 (restN c)) ∧ Below w.heap.size w w' := by
  have a0 : c < 57358 := by omega
  have a1 : c ≤ 57362 := by omega
  have a2 : c < 57376 := by omega
  have a3 : c ≤ 57398 := by omega
  have a4 : c < 57428 := by omega
  have a5 : c ≤ 57440 := by omega
  have a6 : c < 57441 := by omega
  have a7 : c ≤ 57454 := by omega
  have a8 : c < 32 := by omega
  have a9 : c < 127 := by omega
  have a10 : c ≤ 159 := by omega
  have a11 : c < 57344 := by omega
  have a12 : c ≤ 63743 := by omega
  obtain ⟨q, hq⟩ : ∃ q, isPtK c = q := ⟨_, rfl⟩
  have HI := Lib.hid (ris_any c w)
  rw [hq] at HI
  have E := Lib.hid (show restN c = 0 by unfold restN; rw [if_neg hc, if_neg (by omega), if_neg (by omega), if_pos (by omega)])
  clear hq
  have e0 : (c == 9) = false := by simp; omega
  have e1 : (c == 13) = false := by simp; omega
  have e2 : (c == 27) = false := by simp; omega
  have e3 : (c == 127) = false := by simp; omega
  clear hc k0
  cases q
  all_goals
    go_enter Tryz.func50, Tryz.ntmps50
    go_wp2_with fail
    refine HI.out.mono ?_
    rintro e w1 ⟨rfl, hb⟩
    go_wp2_with fail
    go_ret
    exact ⟨by rw [E.out]; rfl, hb⟩
set_option maxRecDepth 100000 in
set_option maxHeartbeats 8000000 in
theorem rrest_1 (c : Int) (w : World) (hc : ¬ (c = 9 ∨ c = 13 ∨ c = 27 ∨ c = 127)) (k0 : 32 ≤ c) (k1 : c < 127) : Calls Tryz.prog 50 #[.int .i64 c] w fun e w' => e = .returned (.int .i64 (restN c)) ∧ Below w.heap.size w w' := by
  have a0 : c < 57358 := by omega
  have a1 : c ≤ 57362 := by omega
  have a2 : c < 57376 := by omega
  have a3 : c ≤ 57398 := by omega
  have a4 : c < 57428 := by omega
  have a5 : c ≤ 57440 := by omega
  have a6 : c < 57441 := by omega
  have a7 : c ≤ 57454 := by omega
  have a8 : 32 ≤ c := by omega
  have a9 : c < 127 := by omega
  have a10 : c ≤ 159 := by omega
  have a11 : c < 57344 := by omega
  have a12 : c ≤ 63743 := by omega
  obtain ⟨q, hq⟩ : ∃ q, isPtK c = q := ⟨_, rfl⟩
  have HI := Lib.hid (ris_any c w)
  rw [hq] at HI
  have E := Lib.hid (show restN c = (if q = false then 0 else 1) by
    unfold restN
    rw [if_neg hc, if_neg (by omega), if_neg (by omega), hq]
    cases q
    · rw [if_pos (.inl rfl), if_pos rfl]
    · rw [if_neg (by simp; omega), if_neg (by decide)])
  clear hq
  have e0 : (c == 9) = false := by simp; omega
  have e1 : (c == 13) = false := by simp; omega
  have e2 : (c == 27) = false := by simp; omega
  have e3 : (c == 127) = false := by simp; omega
  clear hc k0 k1
  cases q
  all_goals
    go_enter Tryz.func50, Tryz.ntmps50
    go_wp2_with fail
    refine HI.out.mono ?_
    rintro e w1 ⟨rfl, hb⟩
    go_wp2_with fail
    go_ret
    exact ⟨by rw [E.out]; rfl, hb⟩
set_option maxRecDepth 100000 in
set_option maxHeartbeats 8000000 in
theorem rrest_2 (c : Int) (w : World) (hc : ¬ (c = 9 ∨ c = 13 ∨ c = 27 ∨ c = 127)) (k0 : 127 ≤ c) (k1 : c < 160) : Calls Tryz.prog 50 #[.int .i64 c] w fun e w' => e = .returned (.int .i64 (restN c)) ∧ Below w.heap.size w w' := by
  have a0 : c < 57358 := by omega
  have a1 : c ≤ 57362 := by omega
  have a2 : c < 57376 := by omega
  have a3 : c ≤ 57398 := by omega
  have a4 : c < 57428 := by omega
  have a5 : c ≤ 57440 := by omega
  have a6 : c < 57441 := by omega
  have a7 : c ≤ 57454 := by omega
  have a8 : 32 ≤ c := by omega
  have a9 : 127 ≤ c := by omega
  have a10 : c ≤ 159 := by omega
  have a11 : c < 57344 := by omega
  have a12 : c ≤ 63743 := by omega
  obtain ⟨q, hq⟩ : ∃ q, isPtK c = q := ⟨_, rfl⟩
  have HI := Lib.hid (ris_any c w)
  rw [hq] at HI
  have E := Lib.hid (show restN c = 0 by unfold restN; rw [if_neg hc, if_neg (by omega), if_neg (by omega), if_pos (by omega)])
  clear hq
  have e0 : (c == 9) = false := by simp; omega
  have e1 : (c == 13) = false := by simp; omega
  have e2 : (c == 27) = false := by simp; omega
  have e3 : (c == 127) = false := by simp; omega
  clear hc k0 k1
  cases q
  all_goals
    go_enter Tryz.func50, Tryz.ntmps50
    go_wp2_with fail
    refine HI.out.mono ?_
    rintro e w1 ⟨rfl, hb⟩
    go_wp2_with fail
    go_ret
    exact ⟨by rw [E.out]; rfl, hb⟩
set_option maxRecDepth 100000 in
set_option maxHeartbeats 8000000 in
theorem rrest_3 (c : Int) (w : World) (hc : ¬ (c = 9 ∨ c = 13 ∨ c = 27 ∨ c = 127)) (k0 : 160 ≤ c) (k1 : c < 57344) : Calls Tryz.prog 50 #[.int .i64 c] w fun e w' => e = .returned (.int .i64 (restN c)) ∧ Below w.heap.size w w' := by
  have a0 : c < 57358 := by omega
  have a1 : c ≤ 57362 := by omega
  have a2 : c < 57376 := by omega
  have a3 : c ≤ 57398 := by omega
  have a4 : c < 57428 := by omega
  have a5 : c ≤ 57440 := by omega
  have a6 : c < 57441 := by omega
  have a7 : c ≤ 57454 := by omega
  have a8 : 32 ≤ c := by omega
  have a9 : 127 ≤ c := by omega
  have a10 : 159 < c := by omega
  have a11 : c < 57344 := by omega
  have a12 : c ≤ 63743 := by omega
  obtain ⟨q, hq⟩ : ∃ q, isPtK c = q := ⟨_, rfl⟩
  have HI := Lib.hid (ris_any c w)
  rw [hq] at HI
  have E := Lib.hid (show restN c = (if q = false then 0 else 1) by
    unfold restN
    rw [if_neg hc, if_neg (by omega), if_neg (by omega), hq]
    cases q
    · rw [if_pos (.inl rfl), if_pos rfl]
    · rw [if_neg (by simp; omega), if_neg (by decide)])
  clear hq
  have e0 : (c == 9) = false := by simp; omega
  have e1 : (c == 13) = false := by simp; omega
  have e2 : (c == 27) = false := by simp; omega
  have e3 : (c == 127) = false := by simp; omega
  clear hc k0 k1
  cases q
  all_goals
    go_enter Tryz.func50, Tryz.ntmps50
    go_wp2_with fail
    refine HI.out.mono ?_
    rintro e w1 ⟨rfl, hb⟩
    go_wp2_with fail
    go_ret
    exact ⟨by rw [E.out]; rfl, hb⟩
set_option maxRecDepth 100000 in
set_option maxHeartbeats 8000000 in
theorem rrest_4 (c : Int) (w : World) (hc : ¬ (c = 9 ∨ c = 13 ∨ c = 27 ∨ c = 127)) (k0 : 57344 ≤ c) (k1 : c < 57358) : Calls Tryz.prog 50 #[.int .i64 c] w fun e w' => e = .returned (.int .i64 (restN c)) ∧ Below w.heap.size w w' := by
  have a0 : c < 57358 := by omega
  have a1 : c ≤ 57362 := by omega
  have a2 : c < 57376 := by omega
  have a3 : c ≤ 57398 := by omega
  have a4 : c < 57428 := by omega
  have a5 : c ≤ 57440 := by omega
  have a6 : c < 57441 := by omega
  have a7 : c ≤ 57454 := by omega
  have a8 : 32 ≤ c := by omega
  have a9 : 127 ≤ c := by omega
  have a10 : 159 < c := by omega
  have a11 : 57344 ≤ c := by omega
  have a12 : c ≤ 63743 := by omega
  obtain ⟨q, hq⟩ : ∃ q, isPtK c = q := ⟨_, rfl⟩
  have HI := Lib.hid (ris_any c w)
  rw [hq] at HI
  have E := Lib.hid (show restN c = 0 by unfold restN; rw [if_neg hc, if_neg (by omega), if_neg (by omega), if_pos (by omega)])
  clear hq
  have e0 : (c == 9) = false := by simp; omega
  have e1 : (c == 13) = false := by simp; omega
  have e2 : (c == 27) = false := by simp; omega
  have e3 : (c == 127) = false := by simp; omega
  clear hc k0 k1
  cases q
  all_goals
    go_enter Tryz.func50, Tryz.ntmps50
    go_wp2_with fail
    refine HI.out.mono ?_
    rintro e w1 ⟨rfl, hb⟩
    go_wp2_with fail
    go_ret
    exact ⟨by rw [E.out]; rfl, hb⟩
set_option maxRecDepth 100000 in
set_option maxHeartbeats 8000000 in
theorem rrest_5 (c : Int) (w : World) (hc : ¬ (c = 9 ∨ c = 13 ∨ c = 27 ∨ c = 127)) (k0 : 57358 ≤ c) (k1 : c < 57363) : Calls Tryz.prog 50 #[.int .i64 c] w fun e w' => e = .returned (.int .i64 (restN c)) ∧ Below w.heap.size w w' := by
  have a0 : 57358 ≤ c := by omega
  have a1 : c ≤ 57362 := by omega
  have a2 : c < 57376 := by omega
  have a3 : c ≤ 57398 := by omega
  have a4 : c < 57428 := by omega
  have a5 : c ≤ 57440 := by omega
  have a6 : c < 57441 := by omega
  have a7 : c ≤ 57454 := by omega
  have a8 : 32 ≤ c := by omega
  have a9 : 127 ≤ c := by omega
  have a10 : 159 < c := by omega
  have a11 : 57344 ≤ c := by omega
  have a12 : c ≤ 63743 := by omega
  have E := Lib.hid (show restN c = 6 by unfold restN; rw [if_neg hc, if_pos (by omega)])
  have e0 : (c == 9) = false := by simp; omega
  have e1 : (c == 13) = false := by simp; omega
  have e2 : (c == 27) = false := by simp; omega
  have e3 : (c == 127) = false := by simp; omega
  clear hc k0 k1
  go_enter Tryz.func50, Tryz.ntmps50
  go_wp2_with fail
  go_ret
  exact ⟨by rw [E.out]; rfl, Below.refl _ _⟩
set_option maxRecDepth 100000 in
set_option maxHeartbeats 8000000 in
theorem rrest_6 (c : Int) (w : World) (hc : ¬ (c = 9 ∨ c = 13 ∨ c = 27 ∨ c = 127)) (k0 : 57363 ≤ c) (k1 : c < 57376) : Calls Tryz.prog 50 #[.int .i64 c] w fun e w' => e = .returned (.int .i64 (restN c)) ∧ Below w.heap.size w w' := by
  have a0 : 57358 ≤ c := by omega
  have a1 : 57362 < c := by omega
  have a2 : c < 57376 := by omega
  have a3 : c ≤ 57398 := by omega
  have a4 : c < 57428 := by omega
  have a5 : c ≤ 57440 := by omega
  have a6 : c < 57441 := by omega
  have a7 : c ≤ 57454 := by omega
  have a8 : 32 ≤ c := by omega
  have a9 : 127 ≤ c := by omega
  have a10 : 159 < c := by omega
  have a11 : 57344 ≤ c := by omega
  have a12 : c ≤ 63743 := by omega
  obtain ⟨q, hq⟩ : ∃ q, isPtK c = q := ⟨_, rfl⟩
  have HI := Lib.hid (ris_any c w)
  rw [hq] at HI
  have E := Lib.hid (show restN c = 0 by unfold restN; rw [if_neg hc, if_neg (by omega), if_neg (by omega), if_pos (by omega)])
  clear hq
  have e0 : (c == 9) = false := by simp; omega
  have e1 : (c == 13) = false := by simp; omega
  have e2 : (c == 27) = false := by simp; omega
  have e3 : (c == 127) = false := by simp; omega
  clear hc k0 k1
  cases q
  all_goals
    go_enter Tryz.func50, Tryz.ntmps50
    go_wp2_with fail
    refine HI.out.mono ?_
    rintro e w1 ⟨rfl, hb⟩
    go_wp2_with fail
    go_ret
    exact ⟨by rw [E.out]; rfl, hb⟩
set_option maxRecDepth 100000 in
set_option maxHeartbeats 8000000 in
theorem rrest_7 (c : Int) (w : World) (hc : ¬ (c = 9 ∨ c = 13 ∨ c = 27 ∨ c = 127)) (k0 : 57376 ≤ c) (k1 : c < 57399) : Calls Tryz.prog 50 #[.int .i64 c] w fun e w' => e = .returned (.int .i64 (restN c)) ∧ Below w.heap.size w w' := by
  have a0 : 57358 ≤ c := by omega
  have a1 : 57362 < c := by omega
  have a2 : 57376 ≤ c := by omega
  have a3 : c ≤ 57398 := by omega
  have a4 : c < 57428 := by omega
  have a5 : c ≤ 57440 := by omega
  have a6 : c < 57441 := by omega
  have a7 : c ≤ 57454 := by omega
  have a8 : 32 ≤ c := by omega
  have a9 : 127 ≤ c := by omega
  have a10 : 159 < c := by omega
  have a11 : 57344 ≤ c := by omega
  have a12 : c ≤ 63743 := by omega
  have E := Lib.hid (show restN c = 6 by unfold restN; rw [if_neg hc, if_pos (by omega)])
  have e0 : (c == 9) = false := by simp; omega
  have e1 : (c == 13) = false := by simp; omega
  have e2 : (c == 27) = false := by simp; omega
  have e3 : (c == 127) = false := by simp; omega
  clear hc k0 k1
  go_enter Tryz.func50, Tryz.ntmps50
  go_wp2_with fail
  go_ret
  exact ⟨by rw [E.out]; rfl, Below.refl _ _⟩
set_option maxRecDepth 100000 in
set_option maxHeartbeats 8000000 in
theorem rrest_8 (c : Int) (w : World) (hc : ¬ (c = 9 ∨ c = 13 ∨ c = 27 ∨ c = 127)) (k0 : 57399 ≤ c) (k1 : c < 57428) : Calls Tryz.prog 50 #[.int .i64 c] w fun e w' => e = .returned (.int .i64 (restN c)) ∧ Below w.heap.size w w' := by
  have a0 : 57358 ≤ c := by omega
  have a1 : 57362 < c := by omega
  have a2 : 57376 ≤ c := by omega
  have a3 : 57398 < c := by omega
  have a4 : c < 57428 := by omega
  have a5 : c ≤ 57440 := by omega
  have a6 : c < 57441 := by omega
  have a7 : c ≤ 57454 := by omega
  have a8 : 32 ≤ c := by omega
  have a9 : 127 ≤ c := by omega
  have a10 : 159 < c := by omega
  have a11 : 57344 ≤ c := by omega
  have a12 : c ≤ 63743 := by omega
  obtain ⟨q, hq⟩ : ∃ q, isPtK c = q := ⟨_, rfl⟩
  have HI := Lib.hid (ris_any c w)
  rw [hq] at HI
  have E := Lib.hid (show restN c = 0 by unfold restN; rw [if_neg hc, if_neg (by omega), if_neg (by omega), if_pos (by omega)])
  clear hq
  have e0 : (c == 9) = false := by simp; omega
  have e1 : (c == 13) = false := by simp; omega
  have e2 : (c == 27) = false := by simp; omega
  have e3 : (c == 127) = false := by simp; omega
  clear hc k0 k1
  cases q
  all_goals
    go_enter Tryz.func50, Tryz.ntmps50
    go_wp2_with fail
    refine HI.out.mono ?_
    rintro e w1 ⟨rfl, hb⟩
    go_wp2_with fail
    go_ret
    exact ⟨by rw [E.out]; rfl, hb⟩
set_option maxRecDepth 100000 in
set_option maxHeartbeats 8000000 in
theorem rrest_9 (c : Int) (w : World) (hc : ¬ (c = 9 ∨ c = 13 ∨ c = 27 ∨ c = 127)) (k0 : 57428 ≤ c) (k1 : c < 57441) : Calls Tryz.prog 50 #[.int .i64 c] w fun e w' => e = .returned (.int .i64 (restN c)) ∧ Below w.heap.size w w' := by
  have a0 : 57358 ≤ c := by omega
  have a1 : 57362 < c := by omega
  have a2 : 57376 ≤ c := by omega
  have a3 : 57398 < c := by omega
  have a4 : 57428 ≤ c := by omega
  have a5 : c ≤ 57440 := by omega
  have a6 : c < 57441 := by omega
  have a7 : c ≤ 57454 := by omega
  have a8 : 32 ≤ c := by omega
  have a9 : 127 ≤ c := by omega
  have a10 : 159 < c := by omega
  have a11 : 57344 ≤ c := by omega
  have a12 : c ≤ 63743 := by omega
  have E := Lib.hid (show restN c = 6 by unfold restN; rw [if_neg hc, if_pos (by omega)])
  have e0 : (c == 9) = false := by simp; omega
  have e1 : (c == 13) = false := by simp; omega
  have e2 : (c == 27) = false := by simp; omega
  have e3 : (c == 127) = false := by simp; omega
  clear hc k0 k1
  go_enter Tryz.func50, Tryz.ntmps50
  go_wp2_with fail
  go_ret
  exact ⟨by rw [E.out]; rfl, Below.refl _ _⟩
set_option maxRecDepth 100000 in
set_option maxHeartbeats 8000000 in
theorem rrest_10 (c : Int) (w : World) (hc : ¬ (c = 9 ∨ c = 13 ∨ c = 27 ∨ c = 127)) (k0 : 57441 ≤ c) (k1 : c < 57455) : Calls Tryz.prog 50 #[.int .i64 c] w fun e w' => e = .returned (.int .i64 (restN c)) ∧ Below w.heap.size w w' := by
  have a0 : 57358 ≤ c := by omega
  have a1 : 57362 < c := by omega
  have a2 : 57376 ≤ c := by omega
  have a3 : 57398 < c := by omega
  have a4 : 57428 ≤ c := by omega
  have a5 : 57440 < c := by omega
  have a6 : 57441 ≤ c := by omega
  have a7 : c ≤ 57454 := by omega
  have a8 : 32 ≤ c := by omega
  have a9 : 127 ≤ c := by omega
  have a10 : 159 < c := by omega
  have a11 : 57344 ≤ c := by omega
  have a12 : c ≤ 63743 := by omega
  have E := Lib.hid (show restN c = 7 by unfold restN; rw [if_neg hc, if_neg (by omega), if_pos (by omega)])
  have e0 : (c == 9) = false := by simp; omega
  have e1 : (c == 13) = false := by simp; omega
  have e2 : (c == 27) = false := by simp; omega
  have e3 : (c == 127) = false := by simp; omega
  clear hc k0 k1
  go_enter Tryz.func50, Tryz.ntmps50
  go_wp2_with fail
  go_ret
  exact ⟨by rw [E.out]; rfl, Below.refl _ _⟩
set_option maxRecDepth 100000 in
set_option maxHeartbeats 8000000 in
theorem rrest_11 (c : Int) (w : World) (hc : ¬ (c = 9 ∨ c = 13 ∨ c = 27 ∨ c = 127)) (k0 : 57455 ≤ c) (k1 : c < 63744) : Calls Tryz.prog 50 #[.int .i64 c] w fun e w' => e = .returned (.int .i64 (restN c)) ∧ Below w.heap.size w w' := by
  have a0 : 57358 ≤ c := by omega
  have a1 : 57362 < c := by omega
  have a2 : 57376 ≤ c := by omega
  have a3 : 57398 < c := by omega
  have a4 : 57428 ≤ c := by omega
  have a5 : 57440 < c := by omega
  have a6 : 57441 ≤ c := by omega
  have a7 : 57454 < c := by omega
  have a8 : 32 ≤ c := by omega
  have a9 : 127 ≤ c := by omega
  have a10 : 159 < c := by omega
  have a11 : 57344 ≤ c := by omega
  have a12 : c ≤ 63743 := by omega
  obtain ⟨q, hq⟩ : ∃ q, isPtK c = q := ⟨_, rfl⟩
  have HI := Lib.hid (ris_any c w)
  rw [hq] at HI
  have E := Lib.hid (show restN c = 0 by unfold restN; rw [if_neg hc, if_neg (by omega), if_neg (by omega), if_pos (by omega)])
  clear hq
  have e0 : (c == 9) = false := by simp; omega
  have e1 : (c == 13) = false := by simp; omega
  have e2 : (c == 27) = false := by simp; omega
  have e3 : (c == 127) = false := by simp; omega
  clear hc k0 k1
  cases q
  all_goals
    go_enter Tryz.func50, Tryz.ntmps50
    go_wp2_with fail
    refine HI.out.mono ?_
    rintro e w1 ⟨rfl, hb⟩
    go_wp2_with fail
    go_ret
    exact ⟨by rw [E.out]; rfl, hb⟩
set_option maxRecDepth 100000 in
set_option maxHeartbeats 8000000 in
theorem rrest_12 (c : Int) (w : World) (hc : ¬ (c = 9 ∨ c = 13 ∨ c = 27 ∨ c = 127)) (k0 : 63744 ≤ c) : Calls Tryz.prog 50 #[.int .i64 c] w fun e w' => e = .returned (.int .i64 (restN c)) ∧ Below w.heap.size w w' := by
  have a0 : 57358 ≤ c := by omega
  have a1 : 57362 < c := by omega
  have a2 : 57376 ≤ c := by omega
  have a3 : 57398 < c := by omega
  have a4 : 57428 ≤ c := by omega
  have a5 : 57440 < c := by omega
  have a6 : 57441 ≤ c := by omega
  have a7 : 57454 < c := by omega
  have a8 : 32 ≤ c := by omega
  have a9 : 127 ≤ c := by omega
  have a10 : 159 < c := by omega
  have a11 : 57344 ≤ c := by omega
  have a12 : 63743 < c := by omega
  obtain ⟨q, hq⟩ : ∃ q, isPtK c = q := ⟨_, rfl⟩
  have HI := Lib.hid (ris_any c w)
  rw [hq] at HI
  have E := Lib.hid (show restN c = (if q = false then 0 else 1) by
    unfold restN
    rw [if_neg hc, if_neg (by omega), if_neg (by omega), hq]
    cases q
    · rw [if_pos (.inl rfl), if_pos rfl]
    · rw [if_neg (by simp; omega), if_neg (by decide)])
  clear hq
  have e0 : (c == 9) = false := by simp; omega
  have e1 : (c == 13) = false := by simp; omega
  have e2 : (c == 27) = false := by simp; omega
  have e3 : (c == 127) = false := by simp; omega
  clear hc k0
  cases q
  all_goals
    go_enter Tryz.func50, Tryz.ntmps50
    go_wp2_with fail
    refine HI.out.mono ?_
    rintro e w1 ⟨rfl, hb⟩
    go_wp2_with fail
    go_ret
    exact ⟨by rw [E.out]; rfl, hb⟩
set_option maxRecDepth 100000 in
theorem rrest_any (c : Int) (w : World) : Calls Tryz.prog 50 #[.int .i64 c] w fun e w' => e = .returned (.int .i64 (restN c)) ∧ Below w.heap.size w w' := by
  by_cases hc : c = 9 ∨ c = 13 ∨ c = 27 ∨ c = 127
  · have E := Lib.hid (show restN c = 2 by unfold restN; rw [if_pos hc])
    rcases hc with rfl | rfl | rfl | rfl
    all_goals
      go_enter Tryz.func50, Tryz.ntmps50
      go_wp2_with fail
      go_ret
      exact ⟨by rw [E.out]; rfl, Below.refl _ _⟩
  by_cases h0 : c < 32
  · exact rrest_0 c w hc h0
  by_cases h1 : c < 127
  · exact rrest_1 c w hc (by omega) h1
  by_cases h2 : c < 160
  · exact rrest_2 c w hc (by omega) h2
  by_cases h3 : c < 57344
  · exact rrest_3 c w hc (by omega) h3
  by_cases h4 : c < 57358
  · exact rrest_4 c w hc (by omega) h4
  by_cases h5 : c < 57363
  · exact rrest_5 c w hc (by omega) h5
  by_cases h6 : c < 57376
  · exact rrest_6 c w hc (by omega) h6
  by_cases h7 : c < 57399
  · exact rrest_7 c w hc (by omega) h7
  by_cases h8 : c < 57428
  · exact rrest_8 c w hc (by omega) h8
  by_cases h9 : c < 57441
  · exact rrest_9 c w hc (by omega) h9
  by_cases h10 : c < 57455
  · exact rrest_10 c w hc (by omega) h10
  by_cases h11 : c < 63744
  · exact rrest_11 c w hc (by omega) h11
  exact rrest_12 c w hc (by omega)
end Go.Proofs.YtmagokkegadmiaaGreatDoor
namespace Go.Proofs.YtmagokkegadmiaaGreatDoor
open Go.RowKit

set_option maxRecDepth 100000 in
set_option maxHeartbeats 16000000 in
theorem rpad_0 (w : World) : Calls Tryz.prog 49 #[.int .i64 57399] w fun e w' => e = .returned (enV (padE 57399)) ∧ Below w.heap.size w w' := by
  go_enter Tryz.func49, Tryz.ntmps49
  go_wp2_with fail
  refine bodyPost_ret (v := enV (padE 57399)) (by simp [results, Tryz.results49, go_sem, enV, padE] <;> (constructor <;> decide +kernel)) rfl ⟨rfl, below_two _ _⟩
set_option maxRecDepth 100000 in
set_option maxHeartbeats 16000000 in
theorem rpad_1 (w : World) : Calls Tryz.prog 49 #[.int .i64 57400] w fun e w' => e = .returned (enV (padE 57400)) ∧ Below w.heap.size w w' := by
  go_enter Tryz.func49, Tryz.ntmps49
  go_wp2_with fail
  refine bodyPost_ret (v := enV (padE 57400)) (by simp [results, Tryz.results49, go_sem, enV, padE] <;> (constructor <;> decide +kernel)) rfl ⟨rfl, below_two _ _⟩
set_option maxRecDepth 100000 in
set_option maxHeartbeats 16000000 in
theorem rpad_2 (w : World) : Calls Tryz.prog 49 #[.int .i64 57401] w fun e w' => e = .returned (enV (padE 57401)) ∧ Below w.heap.size w w' := by
  go_enter Tryz.func49, Tryz.ntmps49
  go_wp2_with fail
  refine bodyPost_ret (v := enV (padE 57401)) (by simp [results, Tryz.results49, go_sem, enV, padE] <;> (constructor <;> decide +kernel)) rfl ⟨rfl, below_two _ _⟩
set_option maxRecDepth 100000 in
set_option maxHeartbeats 16000000 in
theorem rpad_3 (w : World) : Calls Tryz.prog 49 #[.int .i64 57402] w fun e w' => e = .returned (enV (padE 57402)) ∧ Below w.heap.size w w' := by
  go_enter Tryz.func49, Tryz.ntmps49
  go_wp2_with fail
  refine bodyPost_ret (v := enV (padE 57402)) (by simp [results, Tryz.results49, go_sem, enV, padE] <;> (constructor <;> decide +kernel)) rfl ⟨rfl, below_two _ _⟩
set_option maxRecDepth 100000 in
set_option maxHeartbeats 16000000 in
theorem rpad_4 (w : World) : Calls Tryz.prog 49 #[.int .i64 57403] w fun e w' => e = .returned (enV (padE 57403)) ∧ Below w.heap.size w w' := by
  go_enter Tryz.func49, Tryz.ntmps49
  go_wp2_with fail
  refine bodyPost_ret (v := enV (padE 57403)) (by simp [results, Tryz.results49, go_sem, enV, padE] <;> (constructor <;> decide +kernel)) rfl ⟨rfl, below_two _ _⟩
set_option maxRecDepth 100000 in
set_option maxHeartbeats 16000000 in
theorem rpad_5 (w : World) : Calls Tryz.prog 49 #[.int .i64 57404] w fun e w' => e = .returned (enV (padE 57404)) ∧ Below w.heap.size w w' := by
  go_enter Tryz.func49, Tryz.ntmps49
  go_wp2_with fail
  refine bodyPost_ret (v := enV (padE 57404)) (by simp [results, Tryz.results49, go_sem, enV, padE] <;> (constructor <;> decide +kernel)) rfl ⟨rfl, below_two _ _⟩
set_option maxRecDepth 100000 in
set_option maxHeartbeats 16000000 in
theorem rpad_6 (w : World) : Calls Tryz.prog 49 #[.int .i64 57405] w fun e w' => e = .returned (enV (padE 57405)) ∧ Below w.heap.size w w' := by
  go_enter Tryz.func49, Tryz.ntmps49
  go_wp2_with fail
  refine bodyPost_ret (v := enV (padE 57405)) (by simp [results, Tryz.results49, go_sem, enV, padE] <;> (constructor <;> decide +kernel)) rfl ⟨rfl, below_two _ _⟩
set_option maxRecDepth 100000 in
set_option maxHeartbeats 16000000 in
theorem rpad_7 (w : World) : Calls Tryz.prog 49 #[.int .i64 57406] w fun e w' => e = .returned (enV (padE 57406)) ∧ Below w.heap.size w w' := by
  go_enter Tryz.func49, Tryz.ntmps49
  go_wp2_with fail
  refine bodyPost_ret (v := enV (padE 57406)) (by simp [results, Tryz.results49, go_sem, enV, padE] <;> (constructor <;> decide +kernel)) rfl ⟨rfl, below_two _ _⟩
set_option maxRecDepth 100000 in
set_option maxHeartbeats 16000000 in
theorem rpad_8 (w : World) : Calls Tryz.prog 49 #[.int .i64 57407] w fun e w' => e = .returned (enV (padE 57407)) ∧ Below w.heap.size w w' := by
  go_enter Tryz.func49, Tryz.ntmps49
  go_wp2_with fail
  refine bodyPost_ret (v := enV (padE 57407)) (by simp [results, Tryz.results49, go_sem, enV, padE] <;> (constructor <;> decide +kernel)) rfl ⟨rfl, below_two _ _⟩
set_option maxRecDepth 100000 in
set_option maxHeartbeats 16000000 in
theorem rpad_9 (w : World) : Calls Tryz.prog 49 #[.int .i64 57408] w fun e w' => e = .returned (enV (padE 57408)) ∧ Below w.heap.size w w' := by
  go_enter Tryz.func49, Tryz.ntmps49
  go_wp2_with fail
  refine bodyPost_ret (v := enV (padE 57408)) (by simp [results, Tryz.results49, go_sem, enV, padE] <;> (constructor <;> decide +kernel)) rfl ⟨rfl, below_two _ _⟩
set_option maxRecDepth 100000 in
set_option maxHeartbeats 16000000 in
theorem rpad_10 (w : World) : Calls Tryz.prog 49 #[.int .i64 57409] w fun e w' => e = .returned (enV (padE 57409)) ∧ Below w.heap.size w w' := by
  go_enter Tryz.func49, Tryz.ntmps49
  go_wp2_with fail
  refine bodyPost_ret (v := enV (padE 57409)) (by simp [results, Tryz.results49, go_sem, enV, padE] <;> (constructor <;> decide +kernel)) rfl ⟨rfl, below_two _ _⟩
set_option maxRecDepth 100000 in
set_option maxHeartbeats 16000000 in
theorem rpad_11 (w : World) : Calls Tryz.prog 49 #[.int .i64 57410] w fun e w' => e = .returned (enV (padE 57410)) ∧ Below w.heap.size w w' := by
  go_enter Tryz.func49, Tryz.ntmps49
  go_wp2_with fail
  refine bodyPost_ret (v := enV (padE 57410)) (by simp [results, Tryz.results49, go_sem, enV, padE] <;> (constructor <;> decide +kernel)) rfl ⟨rfl, below_two _ _⟩
set_option maxRecDepth 100000 in
set_option maxHeartbeats 16000000 in
theorem rpad_12 (w : World) : Calls Tryz.prog 49 #[.int .i64 57411] w fun e w' => e = .returned (enV (padE 57411)) ∧ Below w.heap.size w w' := by
  go_enter Tryz.func49, Tryz.ntmps49
  go_wp2_with fail
  refine bodyPost_ret (v := enV (padE 57411)) (by simp [results, Tryz.results49, go_sem, enV, padE] <;> (constructor <;> decide +kernel)) rfl ⟨rfl, below_two _ _⟩
set_option maxRecDepth 100000 in
set_option maxHeartbeats 16000000 in
theorem rpad_13 (w : World) : Calls Tryz.prog 49 #[.int .i64 57412] w fun e w' => e = .returned (enV (padE 57412)) ∧ Below w.heap.size w w' := by
  go_enter Tryz.func49, Tryz.ntmps49
  go_wp2_with fail
  refine bodyPost_ret (v := enV (padE 57412)) (by simp [results, Tryz.results49, go_sem, enV, padE] <;> (constructor <;> decide +kernel)) rfl ⟨rfl, below_two _ _⟩
set_option maxRecDepth 100000 in
set_option maxHeartbeats 16000000 in
theorem rpad_14 (w : World) : Calls Tryz.prog 49 #[.int .i64 57413] w fun e w' => e = .returned (enV (padE 57413)) ∧ Below w.heap.size w w' := by
  go_enter Tryz.func49, Tryz.ntmps49
  go_wp2_with fail
  refine bodyPost_ret (v := enV (padE 57413)) (by simp [results, Tryz.results49, go_sem, enV, padE] <;> (constructor <;> decide +kernel)) rfl ⟨rfl, below_two _ _⟩
set_option maxRecDepth 100000 in
set_option maxHeartbeats 16000000 in
theorem rpad_15 (w : World) : Calls Tryz.prog 49 #[.int .i64 57414] w fun e w' => e = .returned (enV (padE 57414)) ∧ Below w.heap.size w w' := by
  go_enter Tryz.func49, Tryz.ntmps49
  go_wp2_with fail
  refine bodyPost_ret (v := enV (padE 57414)) (by simp [results, Tryz.results49, go_sem, enV, padE] <;> (constructor <;> decide +kernel)) rfl ⟨rfl, below_two _ _⟩
set_option maxRecDepth 100000 in
set_option maxHeartbeats 16000000 in
theorem rpad_16 (w : World) : Calls Tryz.prog 49 #[.int .i64 57415] w fun e w' => e = .returned (enV (padE 57415)) ∧ Below w.heap.size w w' := by
  go_enter Tryz.func49, Tryz.ntmps49
  go_wp2_with fail
  refine bodyPost_ret (v := enV (padE 57415)) (by simp [results, Tryz.results49, go_sem, enV, padE] <;> (constructor <;> decide +kernel)) rfl ⟨rfl, below_two _ _⟩
set_option maxRecDepth 100000 in
set_option maxHeartbeats 16000000 in
theorem rpad_17 (w : World) : Calls Tryz.prog 49 #[.int .i64 57416] w fun e w' => e = .returned (enV (padE 57416)) ∧ Below w.heap.size w w' := by
  go_enter Tryz.func49, Tryz.ntmps49
  go_wp2_with fail
  refine bodyPost_ret (v := enV (padE 57416)) (by simp [results, Tryz.results49, go_sem, enV, padE] <;> (constructor <;> decide +kernel)) rfl ⟨rfl, below_two _ _⟩
theorem rpad_any (c : Int) (h1 : 57399 ≤ c) (h2 : c ≤ 57416) (w : World) : Calls Tryz.prog 49 #[.int .i64 c] w fun e w' => e = .returned (enV (padE c)) ∧ Below w.heap.size w w' := by
  have hc : c = 57399 ∨ c = 57400 ∨ c = 57401 ∨ c = 57402 ∨ c = 57403 ∨ c = 57404 ∨ c = 57405 ∨ c = 57406 ∨ c = 57407 ∨ c = 57408 ∨ c = 57409 ∨ c = 57410 ∨ c = 57411 ∨ c = 57412 ∨ c = 57413 ∨ c = 57414 ∨ c = 57415 ∨ c = 57416 := by omega
  rcases hc with rfl | rfl | rfl | rfl | rfl | rfl | rfl | rfl | rfl | rfl | rfl | rfl | rfl | rfl | rfl | rfl | rfl | rfl
  · exact rpad_0 w
  · exact rpad_1 w
  · exact rpad_2 w
  · exact rpad_3 w
  · exact rpad_4 w
  · exact rpad_5 w
  · exact rpad_6 w
  · exact rpad_7 w
  · exact rpad_8 w
  · exact rpad_9 w
  · exact rpad_10 w
  · exact rpad_11 w
  · exact rpad_12 w
  · exact rpad_13 w
  · exact rpad_14 w
  · exact rpad_15 w
  · exact rpad_16 w
  · exact rpad_17 w
end Go.Proofs.YtmagokkegadmiaaGreatDoor
