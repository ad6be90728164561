/-
  Layer 2, walked: Put, the program's and the document's.
-/
import Derived.Test.YtdhpbihooeckoaaDoorUtfP
namespace Go.Proofs.YtdhpbihooeckoaaDoor
open Go.RowKit

set_option maxHeartbeats 1000000 in
theorem Put_any (r : Int) (w : World) (hs : Siz w) : Calls Tryd.prog 42 #[.int .i64 r] w (Out (putL r) w) := by
  cases h : isPt r with
  | false =>
    rw [putL_no h]
    go_enter Tryd.func42, Tryd.ntmps42
    go_wp2_with fail
    refine (isPt_any r _).mono ?_
    rintro e w1 ⟨rfl, rfl⟩
    go_wp2_with fail
    go_ret
    exact ⟨none, 0, rfl, Rd.nil _ _, Below.refl _ _⟩
  | true =>
    have H := Lib.hid h
    go_enter Tryd.func42, Tryd.ntmps42
    go_wp2_with fail
    refine (isPt_any r _).mono ?_
    rintro e w1 ⟨rfl, rfl⟩
    go_wp2_with fail
    refine (put_any r H.out w.heap.size (.slice none 0 0) 0 [] w hs (Own.nil_ _ _ _ _) (Nat.le_refl _) (by omega)).mono ?_
    rintro e w2 ⟨v, rfl, ho, hb⟩
    go_wp2_with fail
    go_ret
    exact out_own ho hb

end Go.Proofs.YtdhpbihooeckoaaDoor
