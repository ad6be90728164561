/-
  Layer 9: the document's own answers: the pad, and Look.
-/
import Derived.Test.YtdhpbihooeckoaaDoorKeyS
import Derived.Test.YtdhpbihooeckoaaDoorBlk
namespace Go.Proofs.YtdhpbihooeckoaaDoor
open Go.RowKit

def enV (e : En) : Value := .agg #[.int .i64 e.kind, .int .u8 e.fin, .int .i64 e.num, .int .i64 e.char, .bool e.keys]
theorem below_two {w : World} (x y : Obj) : Below w.heap.size w ((w.alloc x).alloc y) := ((Below.refl _ w).alloc (Nat.le_refl _) _).alloc (by simp) _
set_option maxRecDepth 100000 in
set_option maxHeartbeats 16000000 in
theorem rpad_0 (w : World) : Calls Tryd.prog 39 #[.int .i64 57399] w fun e w' => e = .returned (enV (padE 57399)) ∧ Below w.heap.size w w' := by
  go_enter Tryd.func39, Tryd.ntmps39
  go_wp2_with fail
  refine bodyPost_ret (v := enV (padE 57399)) (by simp [results, Tryd.results39, go_sem, enV, padE] <;> (constructor <;> decide +kernel)) rfl ⟨rfl, below_two _ _⟩
set_option maxRecDepth 100000 in
set_option maxHeartbeats 16000000 in
theorem rpad_1 (w : World) : Calls Tryd.prog 39 #[.int .i64 57400] w fun e w' => e = .returned (enV (padE 57400)) ∧ Below w.heap.size w w' := by
  go_enter Tryd.func39, Tryd.ntmps39
  go_wp2_with fail
  refine bodyPost_ret (v := enV (padE 57400)) (by simp [results, Tryd.results39, go_sem, enV, padE] <;> (constructor <;> decide +kernel)) rfl ⟨rfl, below_two _ _⟩
set_option maxRecDepth 100000 in
set_option maxHeartbeats 16000000 in
theorem rpad_2 (w : World) : Calls Tryd.prog 39 #[.int .i64 57401] w fun e w' => e = .returned (enV (padE 57401)) ∧ Below w.heap.size w w' := by
  go_enter Tryd.func39, Tryd.ntmps39
  go_wp2_with fail
  refine bodyPost_ret (v := enV (padE 57401)) (by simp [results, Tryd.results39, go_sem, enV, padE] <;> (constructor <;> decide +kernel)) rfl ⟨rfl, below_two _ _⟩
set_option maxRecDepth 100000 in
set_option maxHeartbeats 16000000 in
theorem rpad_3 (w : World) : Calls Tryd.prog 39 #[.int .i64 57402] w fun e w' => e = .returned (enV (padE 57402)) ∧ Below w.heap.size w w' := by
  go_enter Tryd.func39, Tryd.ntmps39
  go_wp2_with fail
  refine bodyPost_ret (v := enV (padE 57402)) (by simp [results, Tryd.results39, go_sem, enV, padE] <;> (constructor <;> decide +kernel)) rfl ⟨rfl, below_two _ _⟩
set_option maxRecDepth 100000 in
set_option maxHeartbeats 16000000 in
theorem rpad_4 (w : World) : Calls Tryd.prog 39 #[.int .i64 57403] w fun e w' => e = .returned (enV (padE 57403)) ∧ Below w.heap.size w w' := by
  go_enter Tryd.func39, Tryd.ntmps39
  go_wp2_with fail
  refine bodyPost_ret (v := enV (padE 57403)) (by simp [results, Tryd.results39, go_sem, enV, padE] <;> (constructor <;> decide +kernel)) rfl ⟨rfl, below_two _ _⟩
set_option maxRecDepth 100000 in
set_option maxHeartbeats 16000000 in
theorem rpad_5 (w : World) : Calls Tryd.prog 39 #[.int .i64 57404] w fun e w' => e = .returned (enV (padE 57404)) ∧ Below w.heap.size w w' := by
  go_enter Tryd.func39, Tryd.ntmps39
  go_wp2_with fail
  refine bodyPost_ret (v := enV (padE 57404)) (by simp [results, Tryd.results39, go_sem, enV, padE] <;> (constructor <;> decide +kernel)) rfl ⟨rfl, below_two _ _⟩
set_option maxRecDepth 100000 in
set_option maxHeartbeats 16000000 in
theorem rpad_6 (w : World) : Calls Tryd.prog 39 #[.int .i64 57405] w fun e w' => e = .returned (enV (padE 57405)) ∧ Below w.heap.size w w' := by
  go_enter Tryd.func39, Tryd.ntmps39
  go_wp2_with fail
  refine bodyPost_ret (v := enV (padE 57405)) (by simp [results, Tryd.results39, go_sem, enV, padE] <;> (constructor <;> decide +kernel)) rfl ⟨rfl, below_two _ _⟩
set_option maxRecDepth 100000 in
set_option maxHeartbeats 16000000 in
theorem rpad_7 (w : World) : Calls Tryd.prog 39 #[.int .i64 57406] w fun e w' => e = .returned (enV (padE 57406)) ∧ Below w.heap.size w w' := by
  go_enter Tryd.func39, Tryd.ntmps39
  go_wp2_with fail
  refine bodyPost_ret (v := enV (padE 57406)) (by simp [results, Tryd.results39, go_sem, enV, padE] <;> (constructor <;> decide +kernel)) rfl ⟨rfl, below_two _ _⟩
set_option maxRecDepth 100000 in
set_option maxHeartbeats 16000000 in
theorem rpad_8 (w : World) : Calls Tryd.prog 39 #[.int .i64 57407] w fun e w' => e = .returned (enV (padE 57407)) ∧ Below w.heap.size w w' := by
  go_enter Tryd.func39, Tryd.ntmps39
  go_wp2_with fail
  refine bodyPost_ret (v := enV (padE 57407)) (by simp [results, Tryd.results39, go_sem, enV, padE] <;> (constructor <;> decide +kernel)) rfl ⟨rfl, below_two _ _⟩
set_option maxRecDepth 100000 in
set_option maxHeartbeats 16000000 in
theorem rpad_9 (w : World) : Calls Tryd.prog 39 #[.int .i64 57408] w fun e w' => e = .returned (enV (padE 57408)) ∧ Below w.heap.size w w' := by
  go_enter Tryd.func39, Tryd.ntmps39
  go_wp2_with fail
  refine bodyPost_ret (v := enV (padE 57408)) (by simp [results, Tryd.results39, go_sem, enV, padE] <;> (constructor <;> decide +kernel)) rfl ⟨rfl, below_two _ _⟩
set_option maxRecDepth 100000 in
set_option maxHeartbeats 16000000 in
theorem rpad_10 (w : World) : Calls Tryd.prog 39 #[.int .i64 57409] w fun e w' => e = .returned (enV (padE 57409)) ∧ Below w.heap.size w w' := by
  go_enter Tryd.func39, Tryd.ntmps39
  go_wp2_with fail
  refine bodyPost_ret (v := enV (padE 57409)) (by simp [results, Tryd.results39, go_sem, enV, padE] <;> (constructor <;> decide +kernel)) rfl ⟨rfl, below_two _ _⟩
set_option maxRecDepth 100000 in
set_option maxHeartbeats 16000000 in
theorem rpad_11 (w : World) : Calls Tryd.prog 39 #[.int .i64 57410] w fun e w' => e = .returned (enV (padE 57410)) ∧ Below w.heap.size w w' := by
  go_enter Tryd.func39, Tryd.ntmps39
  go_wp2_with fail
  refine bodyPost_ret (v := enV (padE 57410)) (by simp [results, Tryd.results39, go_sem, enV, padE] <;> (constructor <;> decide +kernel)) rfl ⟨rfl, below_two _ _⟩
set_option maxRecDepth 100000 in
set_option maxHeartbeats 16000000 in
theorem rpad_12 (w : World) : Calls Tryd.prog 39 #[.int .i64 57411] w fun e w' => e = .returned (enV (padE 57411)) ∧ Below w.heap.size w w' := by
  go_enter Tryd.func39, Tryd.ntmps39
  go_wp2_with fail
  refine bodyPost_ret (v := enV (padE 57411)) (by simp [results, Tryd.results39, go_sem, enV, padE] <;> (constructor <;> decide +kernel)) rfl ⟨rfl, below_two _ _⟩
set_option maxRecDepth 100000 in
set_option maxHeartbeats 16000000 in
theorem rpad_13 (w : World) : Calls Tryd.prog 39 #[.int .i64 57412] w fun e w' => e = .returned (enV (padE 57412)) ∧ Below w.heap.size w w' := by
  go_enter Tryd.func39, Tryd.ntmps39
  go_wp2_with fail
  refine bodyPost_ret (v := enV (padE 57412)) (by simp [results, Tryd.results39, go_sem, enV, padE] <;> (constructor <;> decide +kernel)) rfl ⟨rfl, below_two _ _⟩
set_option maxRecDepth 100000 in
set_option maxHeartbeats 16000000 in
theorem rpad_14 (w : World) : Calls Tryd.prog 39 #[.int .i64 57413] w fun e w' => e = .returned (enV (padE 57413)) ∧ Below w.heap.size w w' := by
  go_enter Tryd.func39, Tryd.ntmps39
  go_wp2_with fail
  refine bodyPost_ret (v := enV (padE 57413)) (by simp [results, Tryd.results39, go_sem, enV, padE] <;> (constructor <;> decide +kernel)) rfl ⟨rfl, below_two _ _⟩
set_option maxRecDepth 100000 in
set_option maxHeartbeats 16000000 in
theorem rpad_15 (w : World) : Calls Tryd.prog 39 #[.int .i64 57414] w fun e w' => e = .returned (enV (padE 57414)) ∧ Below w.heap.size w w' := by
  go_enter Tryd.func39, Tryd.ntmps39
  go_wp2_with fail
  refine bodyPost_ret (v := enV (padE 57414)) (by simp [results, Tryd.results39, go_sem, enV, padE] <;> (constructor <;> decide +kernel)) rfl ⟨rfl, below_two _ _⟩
set_option maxRecDepth 100000 in
set_option maxHeartbeats 16000000 in
theorem rpad_16 (w : World) : Calls Tryd.prog 39 #[.int .i64 57415] w fun e w' => e = .returned (enV (padE 57415)) ∧ Below w.heap.size w w' := by
  go_enter Tryd.func39, Tryd.ntmps39
  go_wp2_with fail
  refine bodyPost_ret (v := enV (padE 57415)) (by simp [results, Tryd.results39, go_sem, enV, padE] <;> (constructor <;> decide +kernel)) rfl ⟨rfl, below_two _ _⟩
set_option maxRecDepth 100000 in
set_option maxHeartbeats 16000000 in
theorem rpad_17 (w : World) : Calls Tryd.prog 39 #[.int .i64 57416] w fun e w' => e = .returned (enV (padE 57416)) ∧ Below w.heap.size w w' := by
  go_enter Tryd.func39, Tryd.ntmps39
  go_wp2_with fail
  refine bodyPost_ret (v := enV (padE 57416)) (by simp [results, Tryd.results39, go_sem, enV, padE] <;> (constructor <;> decide +kernel)) rfl ⟨rfl, below_two _ _⟩
theorem rpad_any (c : Int) (h1 : 57399 ≤ c) (h2 : c ≤ 57416) (w : World) : Calls Tryd.prog 39 #[.int .i64 c] w fun e w' => e = .returned (enV (padE c)) ∧ Below w.heap.size w w' := by
  have hc : c = 57399 ∨ c = 57400 ∨ c = 57401 ∨ c = 57402 ∨ c = 57403 ∨ c = 57404 ∨ c = 57405 ∨ c = 57406 ∨ c = 57407 ∨ c = 57408 ∨ c = 57409 ∨ c = 57410 ∨ c = 57411 ∨ c = 57412 ∨ c = 57413 ∨ c = 57414 ∨ c = 57415 ∨ c = 57416 := by omega
  rcases hc with rfl | rfl | rfl | rfl | rfl | rfl | rfl | rfl | rfl | rfl | rfl | rfl | rfl | rfl | rfl | rfl | rfl | rfl
  · exact rpad_0 w
  · exact rpad_1 w
  · exact rpad_2 w
  · exact rpad_3 w
  · exact rpad_4 w
  · exact rpad_5 w
  · exact rpad_6 w
  · exact rpad_7 w
  · exact rpad_8 w
  · exact rpad_9 w
  · exact rpad_10 w
  · exact rpad_11 w
  · exact rpad_12 w
  · exact rpad_13 w
  · exact rpad_14 w
  · exact rpad_15 w
  · exact rpad_16 w
  · exact rpad_17 w
end Go.Proofs.YtdhpbihooeckoaaDoor
