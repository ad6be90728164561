/-
  Layer 2's law of numbers as bytes, and of the code point with which bytes begin, walked.
-/
import Derived.Test.YtcijdbklapidnaaDoorUtfW
import Derived.Deep.RegionHeld
namespace Go.Proofs.YtcijdbklapidnaaDoor
open Go.RowKit

set_option maxRecDepth 100000 in
set_option maxHeartbeats 4000000 in
theorem utfPuts_walk (n : Int) (_ : -9223372036854775808 ≤ n) (_ : n ≤ 9223372036854775807) (A : Option Addr) (l : List UInt8) (c : Nat) (hlc : l.length ≤ c) (w : World) (hr : Rd w A (bs l)) (hs : Siz w) :
    Calls Tryd.prog 3 #[.int .i64 n, .slice A l.length c] w fun e w' => e = .returned (.bool true) ∧ Below w.heap.size w w' := by
  by_cases hlen : 100 < l.length
  · go_enter Tryd.func3, Tryd.ntmps3
    go_wp2_with fail
    refine (awake_any _ hs).mono ?_
    rintro e w1 ⟨rfl, hb1⟩
    go_wp2_with fail
    go_ret
    exact ⟨rfl, hb1⟩
  · have hl : l.length ≤ 100 := by omega
    clear hlen
    obtain ⟨U, hU⟩ : ∃ U, putL n = U := ⟨_, rfl⟩
    obtain ⟨r, hr1⟩ : ∃ r, (takeL l).1 = r := ⟨_, rfl⟩
    obtain ⟨m, hm1⟩ : ∃ m, (takeL l).2 = m := ⟨_, rfl⟩
    have E := Lib.hid (show takeL l = (r, m) by rw [← hr1, ← hm1])
    have HU := Lib.hid hU
    clear hU hr1 hm1
    have HCV := Lib.hid (show ∀ (W : World) (A' : Option Addr) (c' : Nat), Rd W A' (bs U) → (convert 22 9 (.slice A' U.length c')).run Tryd.prog W = .ok (.string ⟨U.toArray⟩) W from fun W A' c' h => conv_str Tryd.underlying22 Tryd.underlying5 rfl h _ Tryd.underlying9)
    go_enter Tryd.func3, Tryd.ntmps3
    go_wp2_with fail
    refine (awake_any _ hs).mono ?_
    rintro e w1 ⟨rfl, hb1⟩
    go_wp2_with fail
    refine (take_tup A _ c l r m _ rfl E.out (hs.below' hb1) (by omega) hlc (hr.below hb1)).mono ?_
    rintro e w2 ⟨rfl, hb2⟩
    have hb2 : Below w.heap.size w w2 := hb1.trans (hb2.mono hb1.size)
    go_wp2_with fail
    refine (rtake_tup A _ c l r m _ rfl E.out (by omega) hlc (hr.below hb2)).mono ?_
    rintro e w3 ⟨rfl, hb3⟩
    have hb3 : Below w.heap.size w w3 := hb2.trans (hb3.mono hb2.size)
    clear hb1 hb2
    go_wp2_with fail
    have hcv := HCV.out
    go_region_held (fun w' => Below w.heap.size w w') (first | exact hb3.drew | assumption | exact Below.trans (by assumption) (hb5.mono (Below.size (by assumption)))) (first | (go_at_call 12; refine (Put_at n U U.length HU.out rfl _ (hs.below' (by assumption))).mono ?_; rintro e w5 ⟨A5, c5, rfl, hr5, hb5⟩; (try (have hr7 := Rd.below hr6 hb5))) | (go_at_call 13; refine (rPut_at n U U.length HU.out rfl _).mono ?_; rintro e w5 ⟨A6, c6, rfl, hr6, hb5⟩; (try (have hr7 := Rd.below hr5 hb5))))
    all_goals
      go_wp2
      go_ret
      exact ⟨rfl, by assumption⟩
end Go.Proofs.YtcijdbklapidnaaDoor
