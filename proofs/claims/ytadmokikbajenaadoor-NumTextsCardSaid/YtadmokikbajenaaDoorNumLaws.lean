/-
  Layer 1's laws, walked.
-/
import Derived.Test.YtadmokikbajenaaDoorNumW
namespace Go.Proofs.YtadmokikbajenaaDoor
open Go.RowKit

set_option maxHeartbeats 1000000 in
theorem numTexts_walk (n : Int) (h0 : -9223372036854775808 ≤ n) (h1 : n ≤ 9223372036854775807) (A : Option Addr) (l : List UInt8) (c : Nat) (w : World) (hr : Rd w A (bs l)) (htab : Tab w) :
    Calls Tryd.prog 3 #[.int .i64 n, .slice A l.length c] w fun e w' => e = .returned (.bool true) ∧ Below w.heap.size w w' := by
  by_cases hlen : 100 < l.length
  · go_enter Tryd.func3, Tryd.ntmps3
    go_wp2_with fail
    refine (awake_any _ htab).mono ?_
    rintro e w1 ⟨rfl, hb1⟩
    go_wp2_with fail
    go_ret
    exact ⟨rfl, hb1⟩
  · have hl : l.length ≤ 100 := by omega
    go_enter Tryd.func3, Tryd.ntmps3
    go_wp2_with fail
    refine (awake_any _ htab).mono ?_
    rintro e w1 ⟨rfl, hb1⟩
    go_wp2_with fail
    refine (take_any A c l _ (by omega) (hr.below hb1)).mono ?_
    rintro e w2 ⟨rfl, hb2⟩
    have hb2 : Below w.heap.size w w2 := hb1.trans (hb2.mono hb1.size)
    go_wp2_with fail
    refine (rtake_any A c l _ (by omega) (hr.below hb2)).mono ?_
    rintro e w3 ⟨rfl, rfl⟩
    go_wp2_with fail
    refine (text_any n _ h0 h1 (htab.below hb2)).mono ?_
    rintro e w4 ⟨rfl, hb4⟩
    have hb4 : Below w.heap.size w w4 := hb2.trans (hb4.mono hb2.size)
    go_wp2_with fail
    refine (rtext_any (n.toNat + 1) n _ (by omega) h1 h0).mono ?_
    rintro e w5 ⟨rfl, hb5⟩
    have hb5 : Below w.heap.size w w5 := hb4.trans (hb5.mono hb4.size)
    go_wp2_with fail
    go_ret
    exact ⟨rfl, hb5⟩
end Go.Proofs.YtadmokikbajenaaDoor
