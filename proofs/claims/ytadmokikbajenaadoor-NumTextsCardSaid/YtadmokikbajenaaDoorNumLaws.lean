/-
  Layer 1's laws, walked.
-/
import Derived.Test.YtadmokikbajenaaDoorNumW
namespace Go.Proofs.YtadmokikbajenaaDoor
open Go.RowKit

set_option maxHeartbeats 1000000 in
theorem numTexts_walk (n : Int) (h0 : -9223372036854775808 ≤ n) (h1 : n ≤ 9223372036854775807) (A : Option Addr) (l : List UInt8) (c : Nat) (w : World) (hr : Rd w A (bs l)) (htab : Tab w) :
    Calls Tryd.prog 3 #[.int .i64 n, .slice A l.length c] w fun e w' => e = .returned (.bool true) ∧ Below w.heap.size w w' := by
  by_cases hlen : 100 < l.length
  · go_enter Tryd.func3, Tryd.ntmps3
    go_wp2_with fail
    refine (awake_any _ htab).mono ?_
    rintro e w1 ⟨rfl, hb1⟩
    go_wp2_with fail
    go_ret
    exact ⟨rfl, hb1⟩
  · have hl : l.length ≤ 100 := by omega
    go_enter Tryd.func3, Tryd.ntmps3
    go_wp2_with fail
    refine (awake_any _ htab).mono ?_
    rintro e w1 ⟨rfl, hb1⟩
    go_wp2_with fail
    refine (take_any A c l _ (by omega) (hr.below hb1)).mono ?_
    rintro e w2 ⟨rfl, hb2⟩
    have hb2 : Below w.heap.size w w2 := hb1.trans (hb2.mono hb1.size)
    go_wp2_with fail
    refine (rtake_any A c l _ (by omega) (hr.below hb2)).mono ?_
    rintro e w3 ⟨rfl, rfl⟩
    go_wp2_with fail
    refine (text_any n _ h0 h1 (htab.below hb2)).mono ?_
    rintro e w4 ⟨rfl, hb4⟩
    have hb4 : Below w.heap.size w w4 := hb2.trans (hb4.mono hb2.size)
    go_wp2_with fail
    refine (rtext_any (n.toNat + 1) n _ (by omega) h1 h0).mono ?_
    rintro e w5 ⟨rfl, hb5⟩
    have hb5 : Below w.heap.size w w5 := hb4.trans (hb5.mono hb4.size)
    go_wp2_with fail
    go_ret
    exact ⟨rfl, hb5⟩

set_option maxHeartbeats 1000000 in
theorem numHexes_walk (A : Option Addr) (l : List UInt8) (c : Nat) (s : ByteArray) (hs : s.size ≤ maxLen) (w : World) (hr : Rd w A (bs l)) (htab : Tab w) :
    Calls Tryd.prog 4 #[.slice A l.length c, .string s] w fun e w' => e = .returned (.bool true) ∧ Below w.heap.size w w' := by
  unfold maxLen at hs
  by_cases hlen : 100 < l.length
  · go_enter Tryd.func4, Tryd.ntmps4
    go_wp2_with fail
    refine (awake_any _ htab).mono ?_
    rintro e w1 ⟨rfl, hb1⟩
    go_wp2_with fail
    go_ret
    exact ⟨rfl, hb1⟩
  · have hl : l.length ≤ 100 := by omega
    by_cases hlen2 : 100 < s.size
    · go_enter Tryd.func4, Tryd.ntmps4
      go_wp2_with fail
      refine (awake_any _ htab).mono ?_
      rintro e w1 ⟨rfl, hb1⟩
      go_wp2_with fail
      go_ret
      exact ⟨rfl, hb1⟩
    · have hl2 : s.size ≤ 100 := by omega
      cases hU : unhexL s.data.toList with
      | none =>
        have HU := Lib.hid hU
        clear hU
        go_enter Tryd.func4, Tryd.ntmps4
        go_wp2_with fail
        refine (awake_any _ htab).mono ?_
        rintro e w1 ⟨rfl, hb1⟩
        go_wp2_with fail
        refine (unhex_any s _ (by omega)).mono ?_
        rintro e w2 g
        obtain ⟨rfl, hb2⟩ := got_no HU.out g
        have hb2 : Below w.heap.size w w2 := hb1.trans (hb2.mono hb1.size)
        clear g
        go_wp2_with fail
        refine (runhex_any s _ (by omega)).mono ?_
        rintro e w3 g
        obtain ⟨rfl, hb3⟩ := got_no HU.out g
        have hb3 : Below w.heap.size w w3 := hb2.trans (hb3.mono hb2.size)
        clear g
        go_wp2_with fail
        refine (hex_any A c l _ (by omega) (hr.below hb3)).mono ?_
        rintro e w4 ⟨rfl, hb4⟩
        have hb4 : Below w.heap.size w w4 := hb3.trans (hb4.mono hb3.size)
        go_wp2_with fail
        refine (rhex_any A c l _ (by omega) (hr.below hb4)).mono ?_
        rintro e w5 ⟨rfl, hb5⟩
        have hb5 : Below w.heap.size w w5 := hb4.trans (hb5.mono hb4.size)
        have hcv := conv_str (P := Tryd.prog) (l := []) Tryd.underlying22 Tryd.underlying5 (c := 0) (n := 0) rfl (Rd.nil w5 none) _ Tryd.underlying9
        go_wp2_with fail
        go_ret
        exact ⟨rfl, hb5⟩
      | some out =>
        have HU := Lib.hid hU
        clear hU
        go_enter Tryd.func4, Tryd.ntmps4
        go_wp2_with fail
        refine (awake_any _ htab).mono ?_
        rintro e w1 ⟨rfl, hb1⟩
        go_wp2_with fail
        refine (unhex_any s _ (by omega)).mono ?_
        rintro e w2 g
        obtain ⟨A2, c2, rfl, hr2, hb2⟩ := got_yes HU.out g
        have hb2 : Below w.heap.size w w2 := hb1.trans (hb2.mono hb1.size)
        clear g
        go_wp2_with fail
        refine (runhex_any s _ (by omega)).mono ?_
        rintro e w3 g
        obtain ⟨A3, c3, rfl, hr3, hb3⟩ := got_yes HU.out g
        have hr2 := hr2.below hb3
        have hb3 : Below w.heap.size w w3 := hb2.trans (hb3.mono hb2.size)
        clear g
        go_wp2_with fail
        refine (hex_any A c l _ (by omega) (hr.below hb3)).mono ?_
        rintro e w4 ⟨rfl, hb4⟩
        have hr2 := hr2.below hb4
        have hr3 := hr3.below hb4
        have hb4 : Below w.heap.size w w4 := hb3.trans (hb4.mono hb3.size)
        go_wp2_with fail
        refine (rhex_any A c l _ (by omega) (hr.below hb4)).mono ?_
        rintro e w5 ⟨rfl, hb5⟩
        have hr2 := hr2.below hb5
        have hr3 := hr3.below hb5
        have hb5 : Below w.heap.size w w5 := hb4.trans (hb5.mono hb4.size)
        have hcv2 := conv_str (P := Tryd.prog) Tryd.underlying22 Tryd.underlying5 (c := c2) rfl hr2 _ Tryd.underlying9
        have hcv3 := conv_str (P := Tryd.prog) Tryd.underlying22 Tryd.underlying5 (c := c3) rfl hr3 _ Tryd.underlying9
        go_wp2_with fail
        go_ret
        exact ⟨rfl, hb5⟩
end Go.Proofs.YtadmokikbajenaaDoor
