/-
  Layer 2's law of order, walked.
-/
import Derived.Test.YtcijdbklapidnaaDoorUtfK
namespace Go.Proofs.YtcijdbklapidnaaDoor
open Go.RowKit

set_option maxRecDepth 100000 in
set_option maxHeartbeats 4000000 in
theorem utfOrder_walk (a : Int) (_ : -9223372036854775808 ≤ a) (_ : a ≤ 9223372036854775807) (b : Int) (_ : -9223372036854775808 ≤ b) (_ : b ≤ 9223372036854775807) (w : World) (hs : Siz w) :
    Calls Tryd.prog 8 #[.int .i64 a, .int .i64 b] w fun e w' => e = .returned (.bool true) ∧ Below w.heap.size w w' := by
  cases ha : isPt a with
  | false =>
    have HA := Lib.hid ha
    clear ha
    go_enter Tryd.func8, Tryd.ntmps8
    go_wp2_with fail
    refine (awake_any _ hs).mono ?_
    rintro e w1 ⟨rfl, hb1⟩
    go_wp2_with fail
    refine (risPt_any a _).mono ?_
    rw [HA.out]
    rintro e w2 ⟨rfl, rfl⟩
    go_wp2_with fail
    go_ret
    exact ⟨rfl, hb1⟩
  | true =>
    have HA := Lib.hid ha
    clear ha
    cases hb : isPt b with
    | false =>
      have HB := Lib.hid hb
      clear hb
      go_enter Tryd.func8, Tryd.ntmps8
      go_wp2_with fail
      refine (awake_any _ hs).mono ?_
      rintro e w1 ⟨rfl, hb1⟩
      go_wp2_with fail
      refine (risPt_any a _).mono ?_
      rw [HA.out]
      rintro e w2 ⟨rfl, rfl⟩
      go_wp2_with fail
      refine (risPt_any b _).mono ?_
      rw [HB.out]
      rintro e w2 ⟨rfl, rfl⟩
      go_wp2_with fail
      go_ret
      exact ⟨rfl, hb1⟩
    | true =>
      have HB := Lib.hid hb
      clear hb
      obtain ⟨o1, o2, o3⟩ := order_of (form_of HA.out) (form_of HB.out)
      obtain ⟨U, hU⟩ : ∃ U, putL a = U := ⟨_, rfl⟩
      obtain ⟨V, hV⟩ : ∃ V, putL b = V := ⟨_, rfl⟩
      rw [hU, hV] at o1
      rw [hU, hV] at o2
      rw [hU] at o3
      have HU := Lib.hid hU
      have HV := Lib.hid hV
      have H2 := Lib.hid o2
      have hm : U.length ≤ 4 := by rw [← hU]; exact putL_le a
      have hm2 : V.length ≤ 4 := by rw [← hV]; exact putL_le b
      clear hU hV o2
      by_cases hba : b < a
      all_goals


        go_enter Tryd.func8, Tryd.ntmps8
        go_wp2_with fail
        refine (awake_any _ hs).mono ?_
        rintro e w1 ⟨rfl, hb1⟩
        go_wp2_with fail
        refine (risPt_any a _).mono ?_
        rw [HA.out]
        rintro e w2 ⟨rfl, rfl⟩
        go_wp2_with fail
        refine (risPt_any b _).mono ?_
        rw [HB.out]
        rintro e w2 ⟨rfl, rfl⟩
        go_wp2_with fail
        refine (Put_at a U U.length HU.out rfl _ (hs.below' hb1)).mono ?_
        rintro e w3 ⟨A3, c3, rfl, hr3, hb3⟩
        have hb3 : Below w.heap.size w w3 := hb1.trans (hb3.mono hb1.size)
        have hcv := conv_str (P := Tryd.prog) Tryd.underlying22 Tryd.underlying5 (c := c3) rfl hr3 _ Tryd.underlying9
        go_wp2_with fail
        refine (Put_at b V V.length HV.out rfl _ (hs.below' hb3)).mono ?_
        rintro e w4 ⟨A4, c4, rfl, hr4, hb4⟩
        have hb4 : Below w.heap.size w w4 := hb3.trans (hb4.mono hb3.size)
        have hcw := conv_str (P := Tryd.prog) Tryd.underlying22 Tryd.underlying5 (c := c4) rfl hr4 _ Tryd.underlying9
        try (have h3 := H2.out (by omega))
        go_wp2_with fail
        all_goals first
          | (go_ret; exact ⟨rfl, hb4⟩)
          | (exfalso; omega)
end Go.Proofs.YtcijdbklapidnaaDoor
