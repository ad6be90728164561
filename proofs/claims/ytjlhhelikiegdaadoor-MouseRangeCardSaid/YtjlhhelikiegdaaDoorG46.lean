/-
  Layer 16, walked over the landed mouse: MouseRange.
-/
import Derived.Test.YtjlhhelikiegdaaDoorG15
import Derived.Test.YtjlhhelikiegdaaDoorG43
namespace Go.Proofs.YtjlhhelikiegdaaDoor
open Go.RowKit
set_option maxRecDepth 100000 in
set_option maxHeartbeats 16000000 in
theorem mouseRange_walk (mode : Int) (_m0 : -9223372036854775808 ≤ mode) (_m1 : mode ≤ 9223372036854775807) (e : Ms) (cod : Int) (c0 : -9223372036854775808 ≤ cod) (c1 : cod ≤ 9223372036854775807) (w : World) (hi : Siz w ∧ Tab w) : Calls Tryd.prog 4 #[.int .i64 mode, msV e, .int .i64 cod] w fun e w' => e = .returned (.bool true) ∧ Below w.heap.size w w' := by
 obtain ⟨btn, typ, x, y, md⟩ := e
 unfold msV
 simp only
 obtain ⟨p, hp⟩ : ∃ p, mayT ⟨btn, typ, x, y, md⟩ = p := ⟨_, rfl⟩
 have HT : Hid (∀ W, Below w.heap.size w W → Tab W) := Lib.hid fun W hW => hi.2.below hW
 have HS : Hid (∀ W, Below w.heap.size w W → Siz W) := Lib.hid fun W hW => hi.1.below' hW
 have HM : Hid (∀ W, Calls Tryd.prog 8 #[.agg #[.int .i64 btn, .int .i64 typ, .int .i64 x, .int .i64 y, .int .i64 md]] W fun e w' => e = .returned (.bool p) ∧ Below W.heap.size W w') := Lib.hid fun W => by
  have := rmay15_any ⟨btn, typ, x, y, md⟩ W
  rw [hp] at this
  exact this
 have k0 := Blk.new w 23 #[.int .i64 btn, .int .i64 typ, .int .i64 x, .int .i64 y, .int .i64 md]
 have HB0 : Below w.heap.size w (w.alloc (.cells #[.int .i64 btn, .int .i64 typ, .int .i64 x, .int .i64 y, .int .i64 md] 23)) := (Below.refl _ w).alloc (Nat.le_refl _) _
 cases p with
 | false =>
   have H1 := Lib.hid (enc_k mode cod ⟨btn, typ, x, y, md⟩ ⟨c0, c1⟩ [] 0 (enc_no hp _ _) rfl w hi.2 hi.1)
   clear hp hi c0 c1
   go_enter Tryd.func4, Tryd.ntmps4
   go_wp2_with fail
   refine (mouAwake _ (HT.out _ HB0) (HS.out _ HB0)).mono ?_
   rintro e w1 ⟨rfl, hb1⟩
   have hB1 := HB0.trans (hb1.mono HB0.size)
   have k1 := k0.below hb1 k0.lt
   obtain ⟨a0, a1, a2, a3, a4⟩ := Blk.cells5 k1
   go_wp2_with fail
   refine (HM.out _).mono ?_
   rintro e w2 ⟨rfl, hb2⟩
   have hB2 := hB1.trans (hb2.mono hB1.size)
   have k2 := k1.below hb2 k1.lt
   clear a0 a1 a2 a3 a4
   obtain ⟨a0, a1, a2, a3, a4⟩ := Blk.cells5 k2
   go_wp2_with fail
   refine (H1.out _ hB2).mono ?_
   rintro e w3 ⟨A3, c3, rfl, _, _, hb3⟩
   go_wp2_with fail
   go_ret
   exact ⟨rfl, hB2.trans (hb3.mono hB2.size)⟩
 | true =>
   obtain ⟨r1, r2, r3, r4, r5⟩ := mou_range mode hp
   simp only at r1 r3
   obtain ⟨q0, hq0⟩ : ∃ n, (encM mode 0 ⟨btn, typ, x, y, md⟩).length = n := ⟨_, rfl⟩
   obtain ⟨q5, hq5⟩ : ∃ n, (encM mode 1005 ⟨btn, typ, x, y, md⟩).length = n := ⟨_, rfl⟩
   obtain ⟨qx, hqx⟩ : ∃ n, (encM mode 1015 ⟨btn, typ, x, y, md⟩).length = n := ⟨_, rfl⟩
   obtain ⟨qf, hqf⟩ : ∃ n, (encM mode 1006 ⟨btn, typ, x, y, md⟩).length = n := ⟨_, rfl⟩
   have H0 := Lib.hid (enc_k mode 0 ⟨btn, typ, x, y, md⟩ ⟨by decide, by decide⟩ _ q0 rfl hq0 w hi.2 hi.1)
   have H5 := Lib.hid (enc_k mode 1005 ⟨btn, typ, x, y, md⟩ ⟨by decide, by decide⟩ _ q5 rfl hq5 w hi.2 hi.1)
   have HX := Lib.hid (enc_k mode 1015 ⟨btn, typ, x, y, md⟩ ⟨by decide, by decide⟩ _ qx rfl hqx w hi.2 hi.1)
   have HF := Lib.hid (enc_k mode 1006 ⟨btn, typ, x, y, md⟩ ⟨by decide, by decide⟩ _ qf rfl hqf w hi.2 hi.1)
   rw [hq0] at r1 r2
   rw [hq5] at r3
   rw [hqx] at r4
   rw [hqf] at r5
   have gx : (0 : Int) < (qx : Int) := by omega
   have gf : (0 : Int) < (qf : Int) := by omega
   have gq : 0 < qf := r5
   have gqx : 0 < qx := r4
   clear hp hi hq0 hq5 hqx hqf r4 r5 c0 c1
   obtain ⟨far, hfar⟩ : ∃ n, max x y = n := ⟨_, rfl⟩
   by_cases f1 : far ≤ 223
   ·obtain rfl : q0 = 6 := r1.2 (by omega)
    have f2 : far ≤ 2015 := by omega
    have g5 : (6 : Int) ≤ (q5 : Int) := by have := r3.2 (by omega); omega
    clear r1 r2 r3
    go_enter Tryd.func4, Tryd.ntmps4
    go_wp2_with fail
    refine (mouAwake _ (HT.out _ HB0) (HS.out _ HB0)).mono ?_
    rintro e w1 ⟨rfl, hb1⟩
    have hB1 := HB0.trans (hb1.mono HB0.size)
    have k1 := k0.below hb1 k0.lt
    clear hb1 HB0 k0
    obtain ⟨a0, a1, a2, a3, a4⟩ := Blk.cells5 k1
    go_wp2_with fail
    refine (HM.out _).mono ?_
    rintro e w2 ⟨rfl, hb2⟩
    have hB2 := hB1.trans (hb2.mono hB1.size)
    have k2 := k1.below hb2 k1.lt
    clear hb2 hB1 k1 HM a0 a1 a2 a3 a4
    obtain ⟨a0, a1, a2, a3, a4⟩ := Blk.cells5 k2
    go_wp2_with fail
    refine (H0.out _ hB2).mono ?_
    rintro e w3 ⟨A3, c3, rfl, _, _, hb3⟩
    have hB3 := hB2.trans (hb3.mono hB2.size)
    have k3 := k2.below hb3 k2.lt
    clear hb3 k2 hB2 a0 a1 a2 a3 a4
    obtain ⟨a0, a1, a2, a3, a4⟩ := Blk.cells5 k3
    go_wp2_with fail
    refine (H5.out _ hB3).mono ?_
    rintro e w4 ⟨A4, c4, rfl, _, _, hb4⟩
    have hB4 := hB3.trans (hb4.mono hB3.size)
    have k4 := k3.below hb4 k3.lt
    clear hb4 k3 hB3 a0 a1 a2 a3 a4
    obtain ⟨a0, a1, a2, a3, a4⟩ := Blk.cells5 k4
    go_wp2_with fail
    refine (HX.out _ hB4).mono ?_
    rintro e w5 ⟨A5, c5, rfl, _, _, hb5⟩
    have hB5 := hB4.trans (hb5.mono hB4.size)
    have k5 := k4.below hb5 k4.lt
    clear hb5 k4 hB4 a0 a1 a2 a3 a4
    obtain ⟨a0, a1, a2, a3, a4⟩ := Blk.cells5 k5
    go_wp2_with fail
    refine (HF.out _ hB5).mono ?_
    rintro e w6 ⟨A6, c6, rfl, _, _, hb6⟩
    have hB6 := hB5.trans (hb6.mono hB5.size)
    have k6 := k5.below hb6 k5.lt
    clear hb6 k5 hB5 a0 a1 a2 a3 a4
    obtain ⟨a0, a1, a2, a3, a4⟩ := Blk.cells5 k6
    go_wp2_with fail
    go_ret
    exact ⟨ret_bl (by first | rfl | exact decide_eq_true gq | (rw [decide_eq_false (show ¬ far ≤ 223 by omega)]; rfl) | (rw [decide_eq_false (show ¬ far ≤ 223 by omega), decide_eq_true gq]; rfl)), hB6⟩
   ·obtain rfl : q0 = 0 := by
     rcases r2 with h | h
     ·exact absurd (r1.1 h) (by omega)
     ·exact h
    by_cases f2 : far ≤ 2015
    ·have g5 : (6 : Int) ≤ (q5 : Int) := by have := r3.2 (by omega); omega
     clear r1 r2 r3
     go_enter Tryd.func4, Tryd.ntmps4
     go_wp2_with fail
     refine (mouAwake _ (HT.out _ HB0) (HS.out _ HB0)).mono ?_
     rintro e w1 ⟨rfl, hb1⟩
     have hB1 := HB0.trans (hb1.mono HB0.size)
     have k1 := k0.below hb1 k0.lt
     clear hb1 HB0 k0
     obtain ⟨a0, a1, a2, a3, a4⟩ := Blk.cells5 k1
     go_wp2_with fail
     refine (HM.out _).mono ?_
     rintro e w2 ⟨rfl, hb2⟩
     have hB2 := hB1.trans (hb2.mono hB1.size)
     have k2 := k1.below hb2 k1.lt
     clear hb2 hB1 k1 HM a0 a1 a2 a3 a4
     obtain ⟨a0, a1, a2, a3, a4⟩ := Blk.cells5 k2
     go_wp2_with fail
     refine (H0.out _ hB2).mono ?_
     rintro e w3 ⟨A3, c3, rfl, _, _, hb3⟩
     have hB3 := hB2.trans (hb3.mono hB2.size)
     have k3 := k2.below hb3 k2.lt
     clear hb3 k2 hB2 a0 a1 a2 a3 a4
     obtain ⟨a0, a1, a2, a3, a4⟩ := Blk.cells5 k3
     go_wp2_with fail
     refine (H5.out _ hB3).mono ?_
     rintro e w4 ⟨A4, c4, rfl, _, _, hb4⟩
     have hB4 := hB3.trans (hb4.mono hB3.size)
     have k4 := k3.below hb4 k3.lt
     clear hb4 k3 hB3 a0 a1 a2 a3 a4
     obtain ⟨a0, a1, a2, a3, a4⟩ := Blk.cells5 k4
     go_wp2_with fail
     refine (H0.out _ hB4).mono ?_
     rintro e w5 ⟨A5, c5, rfl, _, _, hb5⟩
     have hB5 := hB4.trans (hb5.mono hB4.size)
     have k5 := k4.below hb5 k4.lt
     clear hb5 k4 hB4 a0 a1 a2 a3 a4
     obtain ⟨a0, a1, a2, a3, a4⟩ := Blk.cells5 k5
     go_wp2_with fail
     refine (HX.out _ hB5).mono ?_
     rintro e w6 ⟨A6, c6, rfl, _, _, hb6⟩
     have hB6 := hB5.trans (hb6.mono hB5.size)
     have k6 := k5.below hb6 k5.lt
     clear hb6 k5 hB5 a0 a1 a2 a3 a4
     obtain ⟨a0, a1, a2, a3, a4⟩ := Blk.cells5 k6
     go_wp2_with fail
     refine (HF.out _ hB6).mono ?_
     rintro e w7 ⟨A7, c7, rfl, _, _, hb7⟩
     have hB7 := hB6.trans (hb7.mono hB6.size)
     have k7 := k6.below hb7 k6.lt
     clear hb7 k6 hB6 a0 a1 a2 a3 a4
     obtain ⟨a0, a1, a2, a3, a4⟩ := Blk.cells5 k7
     go_wp2_with fail
     go_ret
     exact ⟨ret_bl (by first | rfl | exact decide_eq_true gq | (rw [decide_eq_false (show ¬ far ≤ 223 by omega)]; rfl) | (rw [decide_eq_false (show ¬ far ≤ 223 by omega), decide_eq_true gq]; rfl)), hB7⟩
    ·have g5 : ¬ ((6 : Int) ≤ (q5 : Int)) := fun h => absurd (r3.1 (by omega)) (by omega)
     clear r1 r2 r3
     go_enter Tryd.func4, Tryd.ntmps4
     go_wp2_with fail
     refine (mouAwake _ (HT.out _ HB0) (HS.out _ HB0)).mono ?_
     rintro e w1 ⟨rfl, hb1⟩
     have hB1 := HB0.trans (hb1.mono HB0.size)
     have k1 := k0.below hb1 k0.lt
     clear hb1 HB0 k0
     obtain ⟨a0, a1, a2, a3, a4⟩ := Blk.cells5 k1
     go_wp2_with fail
     refine (HM.out _).mono ?_
     rintro e w2 ⟨rfl, hb2⟩
     have hB2 := hB1.trans (hb2.mono hB1.size)
     have k2 := k1.below hb2 k1.lt
     clear hb2 hB1 k1 HM a0 a1 a2 a3 a4
     obtain ⟨a0, a1, a2, a3, a4⟩ := Blk.cells5 k2
     go_wp2_with fail
     refine (H0.out _ hB2).mono ?_
     rintro e w3 ⟨A3, c3, rfl, _, _, hb3⟩
     have hB3 := hB2.trans (hb3.mono hB2.size)
     have k3 := k2.below hb3 k2.lt
     clear hb3 k2 hB2 a0 a1 a2 a3 a4
     obtain ⟨a0, a1, a2, a3, a4⟩ := Blk.cells5 k3
     go_wp2_with fail
     refine (H5.out _ hB3).mono ?_
     rintro e w4 ⟨A4, c4, rfl, _, _, hb4⟩
     have hB4 := hB3.trans (hb4.mono hB3.size)
     have k4 := k3.below hb4 k3.lt
     clear hb4 k3 hB3 a0 a1 a2 a3 a4
     obtain ⟨a0, a1, a2, a3, a4⟩ := Blk.cells5 k4
     go_wp2_with fail
     refine (H0.out _ hB4).mono ?_
     rintro e w5 ⟨A5, c5, rfl, _, _, hb5⟩
     have hB5 := hB4.trans (hb5.mono hB4.size)
     have k5 := k4.below hb5 k4.lt
     clear hb5 k4 hB4 a0 a1 a2 a3 a4
     obtain ⟨a0, a1, a2, a3, a4⟩ := Blk.cells5 k5
     go_wp2_with fail
     refine (HX.out _ hB5).mono ?_
     rintro e w6 ⟨A6, c6, rfl, _, _, hb6⟩
     have hB6 := hB5.trans (hb6.mono hB5.size)
     have k6 := k5.below hb6 k5.lt
     clear hb6 k5 hB5 a0 a1 a2 a3 a4
     obtain ⟨a0, a1, a2, a3, a4⟩ := Blk.cells5 k6
     go_wp2_with fail
     refine (HF.out _ hB6).mono ?_
     rintro e w7 ⟨A7, c7, rfl, _, _, hb7⟩
     have hB7 := hB6.trans (hb7.mono hB6.size)
     have k7 := k6.below hb7 k6.lt
     clear hb7 k6 hB6 a0 a1 a2 a3 a4
     obtain ⟨a0, a1, a2, a3, a4⟩ := Blk.cells5 k7
     go_wp2_with fail
     go_ret
     exact ⟨ret_bl (by first | rfl | exact decide_eq_true gq | (rw [decide_eq_false (show ¬ far ≤ 223 by omega)]; rfl) | (rw [decide_eq_false (show ¬ far ≤ 223 by omega), decide_eq_true gq]; rfl)), hB7⟩
end Go.Proofs.YtjlhhelikiegdaaDoor
