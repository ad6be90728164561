/-
  Layer 9: the document's own answers: the parts of Look.
-/
import Derived.Test.YtdhpbihooeckoaaDoorKeyM
namespace Go.Proofs.YtdhpbihooeckoaaDoor
open Go.RowKit

theorem ret_i9 {k : IntKind} {a b : Int} (h : a = b) : Ending.returned (.int k a) = .returned (.int k b) := by rw [h]
set_option maxRecDepth 100000 in
set_option maxHeartbeats 8000000 in
theorem rletter_any (c : Int) (w : World) : Calls Tryd.prog 37 #[.int .i64 c] w fun e w' => e = .returned (.int .u8 (letterN c)) ∧ w' = w := by
  go_enter Tryd.func37, Tryd.ntmps37
  go_wp2
  all_goals
    go_ret
    refine ⟨ret_i9 ?_, rfl⟩
    simp only [beq_iff_eq, beq_eq_false_iff_ne, ne_eq] at *
    first
      | (subst_vars; decide +kernel)
      | (unfold letterN
         repeat' split
         all_goals omega)
set_option maxRecDepth 100000 in
set_option maxHeartbeats 8000000 in
theorem rnumber_any (c : Int) (w : World) : Calls Tryd.prog 38 #[.int .i64 c] w fun e w' => e = .returned (.int .i64 (numberN c)) ∧ w' = w := by
  go_enter Tryd.func38, Tryd.ntmps38
  go_wp2
  all_goals
    go_ret
    refine ⟨ret_i9 ?_, rfl⟩
    simp only [beq_iff_eq, beq_eq_false_iff_ne, ne_eq] at *
    first
      | (subst_vars; decide +kernel)
      | (unfold numberN
         repeat' split
         all_goals omega)
end Go.Proofs.YtdhpbihooeckoaaDoor
