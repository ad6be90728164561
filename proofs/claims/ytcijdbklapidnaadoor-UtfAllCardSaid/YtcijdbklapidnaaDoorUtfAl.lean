/-
  Layer 2's law of all code points, and of any numbers as bytes, walked.
-/
import Derived.Test.YtcijdbklapidnaaDoorUtfU
namespace Go.Proofs.YtcijdbklapidnaaDoor
open Go.RowKit

set_option maxRecDepth 100000 in
set_option maxHeartbeats 4000000 in
theorem utfAll_walk (A : Option Addr) (b : List UInt8) (c : Nat) (hbc : b.length ≤ c) (B : Option Addr) (l : List Int) (d : Nat) (_ : l.length ≤ d) (w : World) (hra : Rd w A (bs b)) (hrb : Rd w B (is_ l)) (hs : Siz w) :
    Calls Tryd.prog 4 #[.slice A b.length c, .slice B l.length d] w fun e w' => e = .returned (.bool true) ∧ Below w.heap.size w w' := by
  by_cases hlen : 100 < b.length
  · go_enter Tryd.func4, Tryd.ntmps4
    go_wp2_with fail
    refine (awake_any _ hs).mono ?_
    rintro e w1 ⟨rfl, hb1⟩
    go_wp2_with fail
    go_ret
    exact ⟨rfl, hb1⟩
  · have hl : b.length ≤ 100 := by omega
    clear hlen
    by_cases hlen2 : 40 < l.length
    · go_enter Tryd.func4, Tryd.ntmps4
      go_wp2_with fail
      refine (awake_any _ hs).mono ?_
      rintro e w1 ⟨rfl, hb1⟩
      go_wp2_with fail
      go_ret
      exact ⟨rfl, hb1⟩
    · have hl2 : l.length ≤ 40 := by omega
      clear hlen2
      have hKl := allK_le b
      obtain ⟨K, hK⟩ : ∃ K, allK b = K := ⟨_, rfl⟩
      obtain ⟨p, hp⟩ : ∃ p, (allL b).isSome = p := ⟨_, rfl⟩
      obtain ⟨T, hT⟩ : ∃ T, txtK l = T := ⟨_, rfl⟩
      obtain ⟨q, hq⟩ : ∃ q, (textL l).isSome = q := ⟨_, rfl⟩
      rw [hK] at hKl
      have HK := Lib.hid hK
      have HP := Lib.hid hp
      have HT := Lib.hid hT
      have HQ := Lib.hid hq
      clear hK hp hT hq
      go_enter Tryd.func4, Tryd.ntmps4
      go_wp2_with fail
      refine (awake_any _ hs).mono ?_
      rintro e w1 ⟨rfl, hb1⟩
      go_wp2_with fail
      refine (All_one A _ c b K p _ rfl HK.out HP.out (hs.below' hb1) (by omega) hbc (hra.below hb1)).mono ?_
      rintro e w2 ⟨A2, c2, rfl, hr2, hb2⟩
      have hb2 : Below w.heap.size w w2 := hb1.trans (hb2.mono hb1.size)
      go_wp2_with fail
      refine (rAll_one A _ c b K p _ rfl HK.out HP.out (by omega) hbc (hra.below hb2)).mono ?_
      rintro e w3 ⟨A3, c3, rfl, hr3, hb3⟩
      have hr2 := hr2.below hb3
      have hb3 : Below w.heap.size w w3 := hb2.trans (hb3.mono hb2.size)
      go_wp2_with fail
      refine (Text_one B _ d l T q _ rfl HT.out HQ.out (hs.below' hb3) (by omega) (hrb.below hb3)).mono ?_
      rintro e w4 ⟨A4, c4, rfl, hc4, hr4, hb4⟩
      have hr2 := hr2.below hb4
      have hr3 := hr3.below hb4
      have hb4 : Below w.heap.size w w4 := hb3.trans (hb4.mono hb3.size)
      go_wp2_with fail
      refine (rText_one B _ d l T q _ rfl HT.out HQ.out (by omega) (hrb.below hb4)).mono ?_
      rintro e w5 ⟨A5, c5, rfl, hc5, hr5, hb5⟩
      have hr2 := hr2.below hb5
      have hr3 := hr3.below hb5
      have hr4 := hr4.below hb5
      have hb5 : Below w.heap.size w w5 := hb4.trans (hb5.mono hb4.size)
      clear hb1 hb2 hb3 hb4
      go_wp2_with fail
      refine (Valid_at A _ c b p _ rfl HP.out (hs.below' hb5) (by omega) hbc (hra.below hb5)).mono ?_
      rintro e w6 ⟨rfl, hb6⟩
      have hr2 := hr2.below hb6
      have hr3 := hr3.below hb6
      have hr4 := hr4.below hb6
      have hr5 := hr5.below hb6
      have hb6 : Below w.heap.size w w6 := hb5.trans (hb6.mono hb5.size)
      clear hb5
      go_wp2_with fail
      refine (Ints_at A2 _ c2 K A3 _ c3 K true _ rfl rfl (decide_eq_true rfl) (by omega) (by omega) hr2 hr3).mono ?_
      rintro e w7 ⟨rfl, hb7⟩
      have hr4 := hr4.below hb7
      have hr5 := hr5.below hb7
      have hb7 : Below w.heap.size w w7 := hb6.trans (hb7.mono hb6.size)
      have hcv := conv_str (P := Tryd.prog) Tryd.underlying22 Tryd.underlying5 (c := c4) rfl hr4 _ Tryd.underlying9
      have hcw := conv_str (P := Tryd.prog) Tryd.underlying22 Tryd.underlying5 (c := c5) rfl hr5 _ Tryd.underlying9
      go_wp2_with fail
      go_ret
      exact ⟨rfl, hb7⟩
end Go.Proofs.YtcijdbklapidnaaDoor
