/-
  Layer 10, walked: the document's Of.
-/
import Derived.Test.YtdhpbihooeckoaaDoorMdsR
namespace Go.Proofs.YtdhpbihooeckoaaDoor
open Go.RowKit

set_option maxRecDepth 100000 in
theorem rof_any (p : Int) (w : World) : Calls Tryd.prog 15 #[.int .i64 p] w fun e w' => e = .returned (.tuple #[.int .i64 (ofN p).1, .bool (ofN p).2]) ∧ Below w.heap.size w w' := by
  by_cases h1 : p < 1
  · have HE := Lib.hid (show ofN p = (0, false) from if_pos (.inl h1))
    rw [HE.out]
    clear HE
    go_enter Tryd.func15, Tryd.ntmps15
    go_wp2
    go_ret2
    exact ⟨rfl, by first | exact Below.refl _ _ | exact below_drewN (Below.refl _ _) _⟩
  · by_cases h2 : 256 < p
    · have HE := Lib.hid (show ofN p = (0, false) from if_pos (.inr h2))
      rw [HE.out]
      clear HE
      go_enter Tryd.func15, Tryd.ntmps15
      go_wp2
      go_ret2
      exact ⟨rfl, by first | exact Below.refl _ _ | exact below_drewN (Below.refl _ _) _⟩
    · have HE := Lib.hid (show ofN p = (p - 1, true) from if_neg (by omega))
      rw [HE.out]
      have h3 : 1 ≤ p := by omega
      have h4 : p ≤ 256 := by omega
      clear HE
      go_enter Tryd.func15, Tryd.ntmps15
      go_wp2
      go_ret2
      exact ⟨rfl, by first | exact Below.refl _ _ | exact below_drewN (Below.refl _ _) _⟩
end Go.Proofs.YtdhpbihooeckoaaDoor
