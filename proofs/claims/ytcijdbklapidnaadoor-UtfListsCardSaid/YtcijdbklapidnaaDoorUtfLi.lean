/-
  Layer 2's law of lists there and back, walked.
-/
import Derived.Test.YtcijdbklapidnaaDoorUtfU
namespace Go.Proofs.YtcijdbklapidnaaDoor
open Go.RowKit

theorem txtK_some {l : List Int} {t : List UInt8} (h : textL l = some t) : txtK l = t := by unfold txtK; rw [h]; rfl
theorem txtK_none {l : List Int} (h : textL l = none) : txtK l = [] := by unfold txtK; rw [h]; rfl
theorem allK_none {l : List UInt8} (h : allL l = none) : allK l = [] := by unfold allK; rw [h]; rfl

set_option maxRecDepth 100000 in
set_option maxHeartbeats 8000000 in
theorem utfLists_walk (B : Option Addr) (l : List Int) (d : Nat) (_ : l.length ≤ d) (A : Option Addr) (b : List UInt8) (c : Nat) (hbc : b.length ≤ c) (w : World) (hrb : Rd w B (is_ l)) (hra : Rd w A (bs b)) (hs : Siz w) :
    Calls Tryd.prog 6 #[.slice B l.length d, .slice A b.length c] w fun e w' => e = .returned (.bool true) ∧ Below w.heap.size w w' := by
  by_cases hlen : 100 < b.length
  · go_enter Tryd.func6, Tryd.ntmps6
    go_wp2_with fail
    refine (awake_any _ hs).mono ?_
    rintro e w1 ⟨rfl, hb1⟩
    go_wp2_with fail
    go_ret
    exact ⟨rfl, hb1⟩
  · have hl : b.length ≤ 100 := by omega
    clear hlen
    by_cases hlen2 : 40 < l.length
    · go_enter Tryd.func6, Tryd.ntmps6
      go_wp2_with fail
      refine (awake_any _ hs).mono ?_
      rintro e w1 ⟨rfl, hb1⟩
      go_wp2_with fail
      go_ret
      exact ⟨rfl, hb1⟩
    · have hl2 : l.length ≤ 40 := by omega
      clear hlen2
      cases hB : allL b with
      | none =>
        have HB := Lib.hid hB
        clear hB
        cases hT : textL l with
        | none =>
          have HT := Lib.hid hT
          clear hT
          go_enter Tryd.func6, Tryd.ntmps6
          go_wp2_with fail
          refine (awake_any _ hs).mono ?_
          rintro e w1 ⟨rfl, hb1⟩
          go_wp2_with fail
          refine (Text_one B _ d l [] false _ rfl (txtK_none HT.out) (by rw [HT.out]; rfl) (hs.below' hb1) (by omega) (hrb.below hb1)).mono ?_
          rintro e w4 ⟨A4, c4, rfl, hc4, hr4, hb4⟩
          have hb4 : Below w.heap.size w w4 := hb1.trans (hb4.mono hb1.size)
          go_wp2_with fail
          refine (All_none A _ c b _ rfl HB.out (hs.below' hb4) (by omega) hbc (hra.below hb4)).mono ?_
          rintro e w8 ⟨rfl, hb8⟩
          have hb8 : Below w.heap.size w w8 := hb4.trans (hb8.mono hb4.size)
          go_wp2_with fail
          refine (Valid_at A _ c b false _ rfl (by rw [HB.out]; rfl) (hs.below' hb8) (by omega) hbc (hra.below hb8)).mono ?_
          rintro e w9 ⟨rfl, hb9⟩
          have hb9 : Below w.heap.size w w9 := hb8.trans (hb9.mono hb8.size)
          go_wp2_with fail
          go_ret
          exact ⟨rfl, hb9⟩
        | some t =>
          have htl : t.length ≤ 160 := by have := txtK_le l; rw [txtK_some hT] at this; omega
          have HT := Lib.hid hT
          clear hT
          go_enter Tryd.func6, Tryd.ntmps6
          go_wp2_with fail
          refine (awake_any _ hs).mono ?_
          rintro e w1 ⟨rfl, hb1⟩
          go_wp2_with fail
          refine (Text_one B _ d l t true _ rfl (txtK_some HT.out) (by rw [HT.out]; rfl) (hs.below' hb1) (by omega) (hrb.below hb1)).mono ?_
          rintro e w4 ⟨A4, c4, rfl, hc4, hr4, hb4⟩
          have hb4 : Below w.heap.size w w4 := hb1.trans (hb4.mono hb1.size)
          go_wp2_with fail
          refine (All_at A4 _ c4 t l l.length _ rfl (all_text HT.out) rfl (hs.below' hb4) (by omega) hc4 hr4).mono ?_
          rintro e w5 ⟨A5, c5, rfl, hr5, hb5⟩
          have hr4 := hr4.below hb5
          have hb5 : Below w.heap.size w w5 := hb4.trans (hb5.mono hb4.size)
          go_wp2_with fail
          refine (Ints_at A5 _ c5 l B _ d l true _ rfl rfl (decide_eq_true rfl) (by omega) (by omega) hr5 (hrb.below hb5)).mono ?_
          rintro e w6 ⟨rfl, hb6⟩
          have hr4 := hr4.below hb6
          have hb6 : Below w.heap.size w w6 := hb5.trans (hb6.mono hb5.size)
          go_wp2_with fail
          refine (Valid_at A4 _ c4 t true _ rfl (by rw [all_text HT.out]; rfl) (hs.below' hb6) (by omega) hc4 hr4).mono ?_
          rintro e w7 ⟨rfl, hb7⟩
          have hb7 : Below w.heap.size w w7 := hb6.trans (hb7.mono hb6.size)
          go_wp2_with fail
          refine (All_none A _ c b _ rfl HB.out (hs.below' hb7) (by omega) hbc (hra.below hb7)).mono ?_
          rintro e w8 ⟨rfl, hb8⟩
          have hb8 : Below w.heap.size w w8 := hb7.trans (hb8.mono hb7.size)
          go_wp2_with fail
          refine (Valid_at A _ c b false _ rfl (by rw [HB.out]; rfl) (hs.below' hb8) (by omega) hbc (hra.below hb8)).mono ?_
          rintro e w9 ⟨rfl, hb9⟩
          have hb9 : Below w.heap.size w w9 := hb8.trans (hb9.mono hb8.size)
          go_wp2_with fail
          go_ret
          exact ⟨rfl, hb9⟩
      | some k =>
        have hkl := all_length hB
        have HB := Lib.hid hB
        clear hB
        cases hT : textL l with
        | none =>
          have HT := Lib.hid hT
          clear hT
          go_enter Tryd.func6, Tryd.ntmps6
          go_wp2_with fail
          refine (awake_any _ hs).mono ?_
          rintro e w1 ⟨rfl, hb1⟩
          go_wp2_with fail
          refine (Text_one B _ d l [] false _ rfl (txtK_none HT.out) (by rw [HT.out]; rfl) (hs.below' hb1) (by omega) (hrb.below hb1)).mono ?_
          rintro e w4 ⟨A4, c4, rfl, hc4, hr4, hb4⟩
          have hb4 : Below w.heap.size w w4 := hb1.trans (hb4.mono hb1.size)
          go_wp2_with fail
          refine (All_at A _ c b k k.length _ rfl HB.out rfl (hs.below' hb4) (by omega) hbc (hra.below hb4)).mono ?_
          rintro e w8 ⟨A8, c8, rfl, hr8, hb8⟩
          have hb8 : Below w.heap.size w w8 := hb4.trans (hb8.mono hb4.size)
          go_wp2_with fail
          refine (Text_one A8 _ c8 k b true _ rfl (txtK_some (text_all HB.out)) (by rw [text_all HB.out]; rfl) (hs.below' hb8) (by omega) hr8).mono ?_
          rintro e w9 ⟨A9, c9, rfl, hc9, hr9, hb9⟩
          have hb9 : Below w.heap.size w w9 := hb8.trans (hb9.mono hb8.size)
          have hra9 := hra.below hb9
          have hcv := conv_str (P := Tryd.prog) Tryd.underlying22 Tryd.underlying5 (c := c9) rfl hr9 _ Tryd.underlying9
          have hcw := conv_str (P := Tryd.prog) Tryd.underlying22 Tryd.underlying5 (c := c) rfl hra9 _ Tryd.underlying9
          go_wp2_with fail
          go_ret
          exact ⟨rfl, hb9⟩
        | some t =>
          have htl : t.length ≤ 160 := by have := txtK_le l; rw [txtK_some hT] at this; omega
          have HT := Lib.hid hT
          clear hT
          go_enter Tryd.func6, Tryd.ntmps6
          go_wp2_with fail
          refine (awake_any _ hs).mono ?_
          rintro e w1 ⟨rfl, hb1⟩
          go_wp2_with fail
          refine (Text_one B _ d l t true _ rfl (txtK_some HT.out) (by rw [HT.out]; rfl) (hs.below' hb1) (by omega) (hrb.below hb1)).mono ?_
          rintro e w4 ⟨A4, c4, rfl, hc4, hr4, hb4⟩
          have hb4 : Below w.heap.size w w4 := hb1.trans (hb4.mono hb1.size)
          go_wp2_with fail
          refine (All_at A4 _ c4 t l l.length _ rfl (all_text HT.out) rfl (hs.below' hb4) (by omega) hc4 hr4).mono ?_
          rintro e w5 ⟨A5, c5, rfl, hr5, hb5⟩
          have hr4 := hr4.below hb5
          have hb5 : Below w.heap.size w w5 := hb4.trans (hb5.mono hb4.size)
          go_wp2_with fail
          refine (Ints_at A5 _ c5 l B _ d l true _ rfl rfl (decide_eq_true rfl) (by omega) (by omega) hr5 (hrb.below hb5)).mono ?_
          rintro e w6 ⟨rfl, hb6⟩
          have hr4 := hr4.below hb6
          have hb6 : Below w.heap.size w w6 := hb5.trans (hb6.mono hb5.size)
          go_wp2_with fail
          refine (Valid_at A4 _ c4 t true _ rfl (by rw [all_text HT.out]; rfl) (hs.below' hb6) (by omega) hc4 hr4).mono ?_
          rintro e w7 ⟨rfl, hb7⟩
          have hb7 : Below w.heap.size w w7 := hb6.trans (hb7.mono hb6.size)
          go_wp2_with fail
          refine (All_at A _ c b k k.length _ rfl HB.out rfl (hs.below' hb7) (by omega) hbc (hra.below hb7)).mono ?_
          rintro e w8 ⟨A8, c8, rfl, hr8, hb8⟩
          have hb8 : Below w.heap.size w w8 := hb7.trans (hb8.mono hb7.size)
          go_wp2_with fail
          refine (Text_one A8 _ c8 k b true _ rfl (txtK_some (text_all HB.out)) (by rw [text_all HB.out]; rfl) (hs.below' hb8) (by omega) hr8).mono ?_
          rintro e w9 ⟨A9, c9, rfl, hc9, hr9, hb9⟩
          have hb9 : Below w.heap.size w w9 := hb8.trans (hb9.mono hb8.size)
          have hra9 := hra.below hb9
          have hcv := conv_str (P := Tryd.prog) Tryd.underlying22 Tryd.underlying5 (c := c9) rfl hr9 _ Tryd.underlying9
          have hcw := conv_str (P := Tryd.prog) Tryd.underlying22 Tryd.underlying5 (c := c) rfl hra9 _ Tryd.underlying9
          go_wp2_with fail
          go_ret
          exact ⟨rfl, hb9⟩
end Go.Proofs.YtcijdbklapidnaaDoor
