/-
  Layer 9: the document's own answers: the pad, and Look. Layer 10, walked: the document's Fold.
-/
import Derived.Test.YtbjmfhcgkpjcfaaGreatDoorG11
import Derived.Test.YtbjmfhcgkpjcfaaGreatDoorG22
import Derived.Test.YtbjmfhcgkpjcfaaGreatDoorG25
namespace Go.Proofs.YtbjmfhcgkpjcfaaGreatDoor
open Go.RowKit

set_option maxRecDepth 100000 in
set_option maxHeartbeats 16000000 in
theorem rpad_0 (w : World) : Calls Tryz.prog 37 #[.int .i64 57399] w fun e w' => e = .returned (enV (padE 57399)) ∧ Below w.heap.size w w' := by
  go_enter Tryz.func37, Tryz.ntmps37
  go_wp2_with fail
  refine bodyPost_ret (v := enV (padE 57399)) (by simp [results, Tryz.results37, go_sem, enV, padE] <;> (constructor <;> decide +kernel)) rfl ⟨rfl, below_two _ _⟩
set_option maxRecDepth 100000 in
set_option maxHeartbeats 16000000 in
theorem rpad_1 (w : World) : Calls Tryz.prog 37 #[.int .i64 57400] w fun e w' => e = .returned (enV (padE 57400)) ∧ Below w.heap.size w w' := by
  go_enter Tryz.func37, Tryz.ntmps37
  go_wp2_with fail
  refine bodyPost_ret (v := enV (padE 57400)) (by simp [results, Tryz.results37, go_sem, enV, padE] <;> (constructor <;> decide +kernel)) rfl ⟨rfl, below_two _ _⟩
set_option maxRecDepth 100000 in
set_option maxHeartbeats 16000000 in
theorem rpad_2 (w : World) : Calls Tryz.prog 37 #[.int .i64 57401] w fun e w' => e = .returned (enV (padE 57401)) ∧ Below w.heap.size w w' := by
  go_enter Tryz.func37, Tryz.ntmps37
  go_wp2_with fail
  refine bodyPost_ret (v := enV (padE 57401)) (by simp [results, Tryz.results37, go_sem, enV, padE] <;> (constructor <;> decide +kernel)) rfl ⟨rfl, below_two _ _⟩
set_option maxRecDepth 100000 in
set_option maxHeartbeats 16000000 in
theorem rpad_3 (w : World) : Calls Tryz.prog 37 #[.int .i64 57402] w fun e w' => e = .returned (enV (padE 57402)) ∧ Below w.heap.size w w' := by
  go_enter Tryz.func37, Tryz.ntmps37
  go_wp2_with fail
  refine bodyPost_ret (v := enV (padE 57402)) (by simp [results, Tryz.results37, go_sem, enV, padE] <;> (constructor <;> decide +kernel)) rfl ⟨rfl, below_two _ _⟩
set_option maxRecDepth 100000 in
set_option maxHeartbeats 16000000 in
theorem rpad_4 (w : World) : Calls Tryz.prog 37 #[.int .i64 57403] w fun e w' => e = .returned (enV (padE 57403)) ∧ Below w.heap.size w w' := by
  go_enter Tryz.func37, Tryz.ntmps37
  go_wp2_with fail
  refine bodyPost_ret (v := enV (padE 57403)) (by simp [results, Tryz.results37, go_sem, enV, padE] <;> (constructor <;> decide +kernel)) rfl ⟨rfl, below_two _ _⟩
set_option maxRecDepth 100000 in
set_option maxHeartbeats 16000000 in
theorem rpad_5 (w : World) : Calls Tryz.prog 37 #[.int .i64 57404] w fun e w' => e = .returned (enV (padE 57404)) ∧ Below w.heap.size w w' := by
  go_enter Tryz.func37, Tryz.ntmps37
  go_wp2_with fail
  refine bodyPost_ret (v := enV (padE 57404)) (by simp [results, Tryz.results37, go_sem, enV, padE] <;> (constructor <;> decide +kernel)) rfl ⟨rfl, below_two _ _⟩
set_option maxRecDepth 100000 in
set_option maxHeartbeats 16000000 in
theorem rpad_6 (w : World) : Calls Tryz.prog 37 #[.int .i64 57405] w fun e w' => e = .returned (enV (padE 57405)) ∧ Below w.heap.size w w' := by
  go_enter Tryz.func37, Tryz.ntmps37
  go_wp2_with fail
  refine bodyPost_ret (v := enV (padE 57405)) (by simp [results, Tryz.results37, go_sem, enV, padE] <;> (constructor <;> decide +kernel)) rfl ⟨rfl, below_two _ _⟩
set_option maxRecDepth 100000 in
set_option maxHeartbeats 16000000 in
theorem rpad_7 (w : World) : Calls Tryz.prog 37 #[.int .i64 57406] w fun e w' => e = .returned (enV (padE 57406)) ∧ Below w.heap.size w w' := by
  go_enter Tryz.func37, Tryz.ntmps37
  go_wp2_with fail
  refine bodyPost_ret (v := enV (padE 57406)) (by simp [results, Tryz.results37, go_sem, enV, padE] <;> (constructor <;> decide +kernel)) rfl ⟨rfl, below_two _ _⟩
set_option maxRecDepth 100000 in
set_option maxHeartbeats 16000000 in
theorem rpad_8 (w : World) : Calls Tryz.prog 37 #[.int .i64 57407] w fun e w' => e = .returned (enV (padE 57407)) ∧ Below w.heap.size w w' := by
  go_enter Tryz.func37, Tryz.ntmps37
  go_wp2_with fail
  refine bodyPost_ret (v := enV (padE 57407)) (by simp [results, Tryz.results37, go_sem, enV, padE] <;> (constructor <;> decide +kernel)) rfl ⟨rfl, below_two _ _⟩
set_option maxRecDepth 100000 in
set_option maxHeartbeats 16000000 in
theorem rpad_9 (w : World) : Calls Tryz.prog 37 #[.int .i64 57408] w fun e w' => e = .returned (enV (padE 57408)) ∧ Below w.heap.size w w' := by
  go_enter Tryz.func37, Tryz.ntmps37
  go_wp2_with fail
  refine bodyPost_ret (v := enV (padE 57408)) (by simp [results, Tryz.results37, go_sem, enV, padE] <;> (constructor <;> decide +kernel)) rfl ⟨rfl, below_two _ _⟩
set_option maxRecDepth 100000 in
set_option maxHeartbeats 16000000 in
theorem rpad_10 (w : World) : Calls Tryz.prog 37 #[.int .i64 57409] w fun e w' => e = .returned (enV (padE 57409)) ∧ Below w.heap.size w w' := by
  go_enter Tryz.func37, Tryz.ntmps37
  go_wp2_with fail
  refine bodyPost_ret (v := enV (padE 57409)) (by simp [results, Tryz.results37, go_sem, enV, padE] <;> (constructor <;> decide +kernel)) rfl ⟨rfl, below_two _ _⟩
set_option maxRecDepth 100000 in
set_option maxHeartbeats 16000000 in
theorem rpad_11 (w : World) : Calls Tryz.prog 37 #[.int .i64 57410] w fun e w' => e = .returned (enV (padE 57410)) ∧ Below w.heap.size w w' := by
  go_enter Tryz.func37, Tryz.ntmps37
  go_wp2_with fail
  refine bodyPost_ret (v := enV (padE 57410)) (by simp [results, Tryz.results37, go_sem, enV, padE] <;> (constructor <;> decide +kernel)) rfl ⟨rfl, below_two _ _⟩
set_option maxRecDepth 100000 in
set_option maxHeartbeats 16000000 in
theorem rpad_12 (w : World) : Calls Tryz.prog 37 #[.int .i64 57411] w fun e w' => e = .returned (enV (padE 57411)) ∧ Below w.heap.size w w' := by
  go_enter Tryz.func37, Tryz.ntmps37
  go_wp2_with fail
  refine bodyPost_ret (v := enV (padE 57411)) (by simp [results, Tryz.results37, go_sem, enV, padE] <;> (constructor <;> decide +kernel)) rfl ⟨rfl, below_two _ _⟩
set_option maxRecDepth 100000 in
set_option maxHeartbeats 16000000 in
theorem rpad_13 (w : World) : Calls Tryz.prog 37 #[.int .i64 57412] w fun e w' => e = .returned (enV (padE 57412)) ∧ Below w.heap.size w w' := by
  go_enter Tryz.func37, Tryz.ntmps37
  go_wp2_with fail
  refine bodyPost_ret (v := enV (padE 57412)) (by simp [results, Tryz.results37, go_sem, enV, padE] <;> (constructor <;> decide +kernel)) rfl ⟨rfl, below_two _ _⟩
set_option maxRecDepth 100000 in
set_option maxHeartbeats 16000000 in
theorem rpad_14 (w : World) : Calls Tryz.prog 37 #[.int .i64 57413] w fun e w' => e = .returned (enV (padE 57413)) ∧ Below w.heap.size w w' := by
  go_enter Tryz.func37, Tryz.ntmps37
  go_wp2_with fail
  refine bodyPost_ret (v := enV (padE 57413)) (by simp [results, Tryz.results37, go_sem, enV, padE] <;> (constructor <;> decide +kernel)) rfl ⟨rfl, below_two _ _⟩
set_option maxRecDepth 100000 in
set_option maxHeartbeats 16000000 in
theorem rpad_15 (w : World) : Calls Tryz.prog 37 #[.int .i64 57414] w fun e w' => e = .returned (enV (padE 57414)) ∧ Below w.heap.size w w' := by
  go_enter Tryz.func37, Tryz.ntmps37
  go_wp2_with fail
  refine bodyPost_ret (v := enV (padE 57414)) (by simp [results, Tryz.results37, go_sem, enV, padE] <;> (constructor <;> decide +kernel)) rfl ⟨rfl, below_two _ _⟩
set_option maxRecDepth 100000 in
set_option maxHeartbeats 16000000 in
theorem rpad_16 (w : World) : Calls Tryz.prog 37 #[.int .i64 57415] w fun e w' => e = .returned (enV (padE 57415)) ∧ Below w.heap.size w w' := by
  go_enter Tryz.func37, Tryz.ntmps37
  go_wp2_with fail
  refine bodyPost_ret (v := enV (padE 57415)) (by simp [results, Tryz.results37, go_sem, enV, padE] <;> (constructor <;> decide +kernel)) rfl ⟨rfl, below_two _ _⟩
set_option maxRecDepth 100000 in
set_option maxHeartbeats 16000000 in
theorem rpad_17 (w : World) : Calls Tryz.prog 37 #[.int .i64 57416] w fun e w' => e = .returned (enV (padE 57416)) ∧ Below w.heap.size w w' := by
  go_enter Tryz.func37, Tryz.ntmps37
  go_wp2_with fail
  refine bodyPost_ret (v := enV (padE 57416)) (by simp [results, Tryz.results37, go_sem, enV, padE] <;> (constructor <;> decide +kernel)) rfl ⟨rfl, below_two _ _⟩
theorem rpad_any (c : Int) (h1 : 57399 ≤ c) (h2 : c ≤ 57416) (w : World) : Calls Tryz.prog 37 #[.int .i64 c] w fun e w' => e = .returned (enV (padE c)) ∧ Below w.heap.size w w' := by
  have hc : c = 57399 ∨ c = 57400 ∨ c = 57401 ∨ c = 57402 ∨ c = 57403 ∨ c = 57404 ∨ c = 57405 ∨ c = 57406 ∨ c = 57407 ∨ c = 57408 ∨ c = 57409 ∨ c = 57410 ∨ c = 57411 ∨ c = 57412 ∨ c = 57413 ∨ c = 57414 ∨ c = 57415 ∨ c = 57416 := by omega
  rcases hc with rfl | rfl | rfl | rfl | rfl | rfl | rfl | rfl | rfl | rfl | rfl | rfl | rfl | rfl | rfl | rfl | rfl | rfl
  · exact rpad_0 w
  · exact rpad_1 w
  · exact rpad_2 w
  · exact rpad_3 w
  · exact rpad_4 w
  · exact rpad_5 w
  · exact rpad_6 w
  · exact rpad_7 w
  · exact rpad_8 w
  · exact rpad_9 w
  · exact rpad_10 w
  · exact rpad_11 w
  · exact rpad_12 w
  · exact rpad_13 w
  · exact rpad_14 w
  · exact rpad_15 w
  · exact rpad_16 w
  · exact rpad_17 w
end Go.Proofs.YtbjmfhcgkpjcfaaGreatDoor
namespace Go.Proofs.YtbjmfhcgkpjcfaaGreatDoor
open Go.RowKit

set_option maxRecDepth 100000 in
set_option maxHeartbeats 4000000 in
theorem rfold_any (c : Int) (w : World) : Calls Tryz.prog 42 #[.int .i64 c] w fun e w' => e = .returned (.tuple #[.int .i64 (foldN c).1, .bool (foldN c).2]) ∧ Below w.heap.size w w' := by
  have hcut : (c ≤ 31) ∨ (32 ≤ c ∧ c ≤ 32) ∨ (33 ≤ c ∧ c ≤ 46) ∨ (47 ≤ c ∧ c ≤ 47) ∨ (48 ≤ c ∧ c ≤ 49) ∨ (50 ≤ c ∧ c ≤ 50) ∨ (51 ≤ c ∧ c ≤ 55) ∨ (56 ≤ c ∧ c ≤ 56) ∨ (57 ≤ c ∧ c ≤ 62) ∨ (63 ≤ c ∧ c ≤ 63) ∨ (64 ≤ c ∧ c ≤ 64) ∨ (65 ≤ c ∧ c ≤ 95) ∨ (96 ≤ c ∧ c ≤ 96) ∨ (97 ≤ c ∧ c ≤ 122) ∨ (123 ≤ c) := by omega
  rcases hcut with h | h | h | h | h | h | h | h | h | h | h | h | h | h | h
  · have HE := Lib.hid (show foldN c = (0, false) by unfold foldN; (repeat' split) <;> first | rfl | (exfalso; omega))
    rw [HE.out]
    have e32 : (c == 32) = false := by simp; omega
    have e50 : (c == 50) = false := by simp; omega
    have e64 : (c == 64) = false := by simp; omega
    have e47 : (c == 47) = false := by simp; omega
    have e56 : (c == 56) = false := by simp; omega
    have e63 : (c == 63) = false := by simp; omega
    have l97 : c < 97 := by omega
    have l122 : c ≤ 122 := by omega
    have l65 : c < 65 := by omega
    have l95 : c ≤ 95 := by omega
    have l51 : c < 51 := by omega
    have l55 : c ≤ 55 := by omega
    clear HE h
    go_enter Tryz.func42, Tryz.ntmps42
    go_wp2
    go_ret2
    exact ⟨rfl, by first | exact Below.refl _ _ | exact below_drewN (Below.refl _ _) _⟩
  · have HE := Lib.hid (show foldN c = (0, true) by unfold foldN; (repeat' split) <;> first | rfl | (exfalso; omega))
    rw [HE.out]
    obtain rfl : c = 32 := by omega
    clear HE h
    go_enter Tryz.func42, Tryz.ntmps42
    go_wp2
    go_ret2
    exact ⟨rfl, by first | exact Below.refl _ _ | exact below_drewN (Below.refl _ _) _⟩
  · have HE := Lib.hid (show foldN c = (0, false) by unfold foldN; (repeat' split) <;> first | rfl | (exfalso; omega))
    rw [HE.out]
    have e32 : (c == 32) = false := by simp; omega
    have e50 : (c == 50) = false := by simp; omega
    have e64 : (c == 64) = false := by simp; omega
    have e47 : (c == 47) = false := by simp; omega
    have e56 : (c == 56) = false := by simp; omega
    have e63 : (c == 63) = false := by simp; omega
    have l97 : c < 97 := by omega
    have l122 : c ≤ 122 := by omega
    have l65 : c < 65 := by omega
    have l95 : c ≤ 95 := by omega
    have l51 : c < 51 := by omega
    have l55 : c ≤ 55 := by omega
    clear HE h
    go_enter Tryz.func42, Tryz.ntmps42
    go_wp2
    go_ret2
    exact ⟨rfl, by first | exact Below.refl _ _ | exact below_drewN (Below.refl _ _) _⟩
  · have HE := Lib.hid (show foldN c = (31, true) by unfold foldN; (repeat' split) <;> first | rfl | (exfalso; omega))
    rw [HE.out]
    obtain rfl : c = 47 := by omega
    clear HE h
    go_enter Tryz.func42, Tryz.ntmps42
    go_wp2
    go_ret2
    exact ⟨rfl, by first | exact Below.refl _ _ | exact below_drewN (Below.refl _ _) _⟩
  · have HE := Lib.hid (show foldN c = (0, false) by unfold foldN; (repeat' split) <;> first | rfl | (exfalso; omega))
    rw [HE.out]
    have e32 : (c == 32) = false := by simp; omega
    have e50 : (c == 50) = false := by simp; omega
    have e64 : (c == 64) = false := by simp; omega
    have e47 : (c == 47) = false := by simp; omega
    have e56 : (c == 56) = false := by simp; omega
    have e63 : (c == 63) = false := by simp; omega
    have l97 : c < 97 := by omega
    have l122 : c ≤ 122 := by omega
    have l65 : c < 65 := by omega
    have l95 : c ≤ 95 := by omega
    have l51 : c < 51 := by omega
    have l55 : c ≤ 55 := by omega
    clear HE h
    go_enter Tryz.func42, Tryz.ntmps42
    go_wp2
    go_ret2
    exact ⟨rfl, by first | exact Below.refl _ _ | exact below_drewN (Below.refl _ _) _⟩
  · have HE := Lib.hid (show foldN c = (0, true) by unfold foldN; (repeat' split) <;> first | rfl | (exfalso; omega))
    rw [HE.out]
    obtain rfl : c = 50 := by omega
    clear HE h
    go_enter Tryz.func42, Tryz.ntmps42
    go_wp2
    go_ret2
    exact ⟨rfl, by first | exact Below.refl _ _ | exact below_drewN (Below.refl _ _) _⟩
  · have HE := Lib.hid (show foldN c = (27 + c - 51, true) by unfold foldN; (repeat' split) <;> first | rfl | (exfalso; omega))
    rw [HE.out]
    have e32 : (c == 32) = false := by simp; omega
    have e50 : (c == 50) = false := by simp; omega
    have e64 : (c == 64) = false := by simp; omega
    have e47 : (c == 47) = false := by simp; omega
    have e56 : (c == 56) = false := by simp; omega
    have e63 : (c == 63) = false := by simp; omega
    have l97 : c < 97 := by omega
    have l122 : c ≤ 122 := by omega
    have l65 : c < 65 := by omega
    have l95 : c ≤ 95 := by omega
    have l51 : 51 ≤ c := by omega
    have l55 : c ≤ 55 := by omega
    clear HE h
    go_enter Tryz.func42, Tryz.ntmps42
    go_wp2
    go_ret2
    exact ⟨rfl, by first | exact Below.refl _ _ | exact below_drewN (Below.refl _ _) _⟩
  · have HE := Lib.hid (show foldN c = (127, true) by unfold foldN; (repeat' split) <;> first | rfl | (exfalso; omega))
    rw [HE.out]
    obtain rfl : c = 56 := by omega
    clear HE h
    go_enter Tryz.func42, Tryz.ntmps42
    go_wp2
    go_ret2
    exact ⟨rfl, by first | exact Below.refl _ _ | exact below_drewN (Below.refl _ _) _⟩
  · have HE := Lib.hid (show foldN c = (0, false) by unfold foldN; (repeat' split) <;> first | rfl | (exfalso; omega))
    rw [HE.out]
    have e32 : (c == 32) = false := by simp; omega
    have e50 : (c == 50) = false := by simp; omega
    have e64 : (c == 64) = false := by simp; omega
    have e47 : (c == 47) = false := by simp; omega
    have e56 : (c == 56) = false := by simp; omega
    have e63 : (c == 63) = false := by simp; omega
    have l97 : c < 97 := by omega
    have l122 : c ≤ 122 := by omega
    have l65 : c < 65 := by omega
    have l95 : c ≤ 95 := by omega
    have l51 : 51 ≤ c := by omega
    have l55 : 55 < c := by omega
    clear HE h
    go_enter Tryz.func42, Tryz.ntmps42
    go_wp2
    go_ret2
    exact ⟨rfl, by first | exact Below.refl _ _ | exact below_drewN (Below.refl _ _) _⟩
  · have HE := Lib.hid (show foldN c = (127, true) by unfold foldN; (repeat' split) <;> first | rfl | (exfalso; omega))
    rw [HE.out]
    obtain rfl : c = 63 := by omega
    clear HE h
    go_enter Tryz.func42, Tryz.ntmps42
    go_wp2
    go_ret2
    exact ⟨rfl, by first | exact Below.refl _ _ | exact below_drewN (Below.refl _ _) _⟩
  · have HE := Lib.hid (show foldN c = (0, true) by unfold foldN; (repeat' split) <;> first | rfl | (exfalso; omega))
    rw [HE.out]
    obtain rfl : c = 64 := by omega
    clear HE h
    go_enter Tryz.func42, Tryz.ntmps42
    go_wp2
    go_ret2
    exact ⟨rfl, by first | exact Below.refl _ _ | exact below_drewN (Below.refl _ _) _⟩
  · have HE := Lib.hid (show foldN c = (c - 64, true) by unfold foldN; (repeat' split) <;> first | rfl | (exfalso; omega))
    rw [HE.out]
    have e32 : (c == 32) = false := by simp; omega
    have e50 : (c == 50) = false := by simp; omega
    have e64 : (c == 64) = false := by simp; omega
    have e47 : (c == 47) = false := by simp; omega
    have e56 : (c == 56) = false := by simp; omega
    have e63 : (c == 63) = false := by simp; omega
    have l97 : c < 97 := by omega
    have l122 : c ≤ 122 := by omega
    have l65 : 65 ≤ c := by omega
    have l95 : c ≤ 95 := by omega
    have l51 : 51 ≤ c := by omega
    have l55 : 55 < c := by omega
    clear HE h
    go_enter Tryz.func42, Tryz.ntmps42
    go_wp2
    go_ret2
    exact ⟨rfl, by first | exact Below.refl _ _ | exact below_drewN (Below.refl _ _) _⟩
  · have HE := Lib.hid (show foldN c = (0, false) by unfold foldN; (repeat' split) <;> first | rfl | (exfalso; omega))
    rw [HE.out]
    obtain rfl : c = 96 := by omega
    clear HE h
    go_enter Tryz.func42, Tryz.ntmps42
    go_wp2
    go_ret2
    exact ⟨rfl, by first | exact Below.refl _ _ | exact below_drewN (Below.refl _ _) _⟩
  · have HE := Lib.hid (show foldN c = (c - 96, true) by unfold foldN; (repeat' split) <;> first | rfl | (exfalso; omega))
    rw [HE.out]
    have e32 : (c == 32) = false := by simp; omega
    have e50 : (c == 50) = false := by simp; omega
    have e64 : (c == 64) = false := by simp; omega
    have e47 : (c == 47) = false := by simp; omega
    have e56 : (c == 56) = false := by simp; omega
    have e63 : (c == 63) = false := by simp; omega
    have l97 : 97 ≤ c := by omega
    have l122 : c ≤ 122 := by omega
    have l65 : 65 ≤ c := by omega
    have l95 : 95 < c := by omega
    have l51 : 51 ≤ c := by omega
    have l55 : 55 < c := by omega
    clear HE h
    go_enter Tryz.func42, Tryz.ntmps42
    go_wp2
    go_ret2
    exact ⟨rfl, by first | exact Below.refl _ _ | exact below_drewN (Below.refl _ _) _⟩
  · have HE := Lib.hid (show foldN c = (0, false) by unfold foldN; (repeat' split) <;> first | rfl | (exfalso; omega))
    rw [HE.out]
    have e32 : (c == 32) = false := by simp; omega
    have e50 : (c == 50) = false := by simp; omega
    have e64 : (c == 64) = false := by simp; omega
    have e47 : (c == 47) = false := by simp; omega
    have e56 : (c == 56) = false := by simp; omega
    have e63 : (c == 63) = false := by simp; omega
    have l97 : 97 ≤ c := by omega
    have l122 : 122 < c := by omega
    have l65 : 65 ≤ c := by omega
    have l95 : 95 < c := by omega
    have l51 : 51 ≤ c := by omega
    have l55 : 55 < c := by omega
    clear HE h
    go_enter Tryz.func42, Tryz.ntmps42
    go_wp2
    go_ret2
    exact ⟨rfl, by first | exact Below.refl _ _ | exact below_drewN (Below.refl _ _) _⟩
end Go.Proofs.YtbjmfhcgkpjcfaaGreatDoor
