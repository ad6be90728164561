/-
  Layer 6: the document's Own, walked.
-/
import Derived.Test.YtokhchejkfhmmaaModB
namespace Go.Proofs.Ytokhchejkfhmmaa
open Go.RowKit

set_option maxRecDepth 100000 in
set_option maxHeartbeats 8000000 in
theorem rown_any (w : World) : Calls Try.prog 31 #[] w (OwnE w) := by
  go_enter Try.func31, Try.ntmps31
  go_wp2_with fail
  go_ret
  exact ⟨_, _, rfl, Nat.le_refl _, Rd.block (heap_alloc_new w _) rfl, (Below.refl _ w).alloc (Nat.le_refl _) _⟩
end Go.Proofs.Ytokhchejkfhmmaa
