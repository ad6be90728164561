/-
  The document's numbers in figures, walked. (For layers that don't load layer 1's own texts.)
-/
import Derived.Test.YthcafgningpdnaaDoorG01
import Derived.Test.YthcafgningpdnaaDoorG03
import Derived.RegionCalls
import Derived.Deep.RegionWith
namespace Go.Proofs.YthcafgningpdnaaDoor
open Go.RowKit
set_option maxHeartbeats 1000000 in
theorem rtext_any (k : Nat) : ∀ (n : Int) (w : World), n < k → n ≤ 9223372036854775807 → -9223372036854775808 ≤ n →
 Calls Tryd.prog 33 #[.int .i64 n] w fun e w' => e = .returned (.string ⟨(textL n).toArray⟩) ∧ Below w.heap.size w w' := by
 induction k with
 | zero =>
   intro n w hk h1 h0
   have hn : n < 0 := by omega
   have HE := Lib.hid (textL_neg n hn)
   go_enter Tryd.func33, Tryd.ntmps33
   go_wp2_with fail
   go_ret
   exact ⟨ret_s HE.out.symm, Below.refl _ _⟩
 | succ k ih =>
   intro n w hk h1 h0
   have IH := Lib.hid ih
   clear ih
   by_cases hn : n < 0
   ·have HE := Lib.hid (textL_neg n hn)
    go_enter Tryd.func33, Tryd.ntmps33
    go_wp2_with fail
    go_ret
    exact ⟨ret_s HE.out.symm, Below.refl _ _⟩
   ·by_cases h10 : n < 10
    ·have HE := Lib.hid (textL_small n (by omega) h10)
     have hcv := conv_one (P := Tryd.prog) Tryd.underlying61 Tryd.underlying5 Tryd.underlying9 (48 + n) (by omega) (by omega)
     go_enter Tryd.func33, Tryd.ntmps33
     go_wp2_with fail
     go_ret
     exact ⟨ret_s (by rw [HE.out, show (48 + n).toNat = 48 + n.toNat by omega]), (Below.refl _ _).alloc (Nat.le_refl _) _⟩
    ·have HE := Lib.hid (textL_big n (by omega))
     have hcv := conv_one (P := Tryd.prog) Tryd.underlying61 Tryd.underlying5 Tryd.underlying9 (48 + n % 10) (by omega) (by omega)
     go_enter Tryd.func33, Tryd.ntmps33
     go_wp2_with fail
     have b1 : n / 10 < k := by omega
     have b2 : n / 10 ≤ 9223372036854775807 := by omega
     have b4 := textL_length (n / 10) b2
     have b3 : -9223372036854775808 ≤ n / 10 := by omega
     have e1 : IntKind.i64.wrap (n.tdiv 10) = n / 10 := by
      rw [Int.tdiv_eq_ediv_of_nonneg (by omega)]; exact IntWalk.i64_in _ (by omega)
     have e2 : n.tmod 10 = n % 10 := Int.tmod_eq_emod_of_nonneg (by omega)
     have e3 : IntKind.i64.wrap (48 + n % 10) = 48 + n % 10 := IntWalk.i64_in _ (by omega)
     have e4 : IntKind.u8.wrap (48 + n % 10) = 48 + n % 10 := by rw [IntKind.wrap_u8]; omega
     go_region_with (first | (go_at_call 33; refine (IH.out (n / 10) _ b1 b2 b3).mono ?_; rintro e w' ⟨rfl, hb⟩; obtain ⟨hbc, hbf⟩ := below_cells hb))
     all_goals clear e1 e2 e3 e4
     all_goals go_wp2
     all_goals go_ret
     all_goals refine ⟨ret_s (q := textL n) (by rw [HE.out, show (48 + n % 10).toNat = 48 + (n % 10).toNat by omega]), ?_⟩
     all_goals first
      | exact ((Below.refl _ w).drew.trans hb).alloc hb.size _
      | exact (((Below.refl _ w).alloc (Nat.le_refl _) _).drew).trans (hb.mono (by simp))
end Go.Proofs.YthcafgningpdnaaDoor
