/-
  Stage 18, the document's style, walked: Params.
-/
import Derived.Test.YtfifeofmfpjgfaaDoorG22
import Derived.Test.YtfifeofmfpjgfaaDoorG30
import Derived.Deep.RegionHeld3
import Derived.Deep.Cut
namespace Go.Proofs.YtfifeofmfpjgfaaDoor
open Go.RowKit
set_option maxRecDepth 100000 in
set_option maxHeartbeats 8000000 in
theorem rParams18_any (s : Sy) (w : World) : Calls Tryd.prog 56 #[syV s] w fun e w' => ∃ v n, e = .returned v ∧ RwP w' w.heap.size v n (parY s) ∧ Below w.heap.size w w' := by
 obtain ⟨s0, s1, s2, s3, s4, s5, s6, s7, s8, s9⟩ := s
 obtain ⟨q, hq⟩ : ∃ q, mayY ⟨s0, s1, s2, s3, s4, s5, s6, s7, s8, s9⟩ = q := ⟨_, rfl⟩
 have HM : Hid (∀ W, Calls Tryd.prog 26 #[syV ⟨s0, s1, s2, s3, s4, s5, s6, s7, s8, s9⟩] W fun e w' => e = .returned (.bool q) ∧ Below W.heap.size W w') := Lib.hid fun W => rmay18_any _ q hq W
 have kB := Blk.new w 23 #[.bool s0, .bool s1, .bool s2, .bool s3, .bool s4, .bool s5, .bool s6, .int .i64 s7, .int .i64 s8, .int .i64 s9]
 have HB := (Below.refl w.heap.size w).alloc (Nat.le_refl _) (.cells #[.bool s0, .bool s1, .bool s2, .bool s3, .bool s4, .bool s5, .bool s6, .int .i64 s7, .int .i64 s8, .int .i64 s9] 23)
 unfold syV at HM ⊢
 simp only at HM ⊢
 obtain ⟨j0, hj, hy0, hy1, hy2⟩ : ∃ i, Tryd.prog.info? 52 = some i ∧ i.zero = some (.slice none 0 0) ∧ i.size = 1 ∧ i.bytes = 24 := ⟨_, rfl, rfl, rfl, rfl⟩
 cases q with
 | false =>
   have HP := Lib.hid (show parY ⟨s0, s1, s2, s3, s4, s5, s6, s7, s8, s9⟩ = [] from if_neg (by rw [hq]; decide))
   clear hq
   obtain ⟨a0, a1, a2, a3, a4, a5, a6, a7, a8, a9⟩ := Blk.cells10y (s := ⟨s0, s1, s2, s3, s4, s5, s6, s7, s8, s9⟩) kB
   go_enter Tryd.func56, Tryd.ntmps56
   go_wp2_with fail
   refine (HM.out _).mono ?_
   rintro e w1 ⟨rfl, hb1⟩
   go_wp2_with fail
   go_ret
   have hfin : RwP w1 w.heap.size (.slice none 0 0) 0 (parY ⟨s0, s1, s2, s3, s4, s5, s6, s7, s8, s9⟩) := by
    rw [HP.out]
    exact RwP.nil _ _
   exact ⟨_, 0, rfl, hfin, HB.trans (hb1.mono HB.size)⟩
 | true =>
   have HP := Lib.hid (show parY ⟨s0, s1, s2, s3, s4, s5, s6, s7, s8, s9⟩ = [[0]] ++ oneY s0 1 ++ oneY s1 2 ++ oneY s2 3 ++ underY s7 ++ oneY s3 5 ++ oneY s4 7 ++ oneY s5 8 ++ oneY s6 9 ++ tintY s8 30 ++ tintY s9 40 from if_pos hq)
   obtain ⟨⟨⟨u0, u5⟩, hx⟩, hy⟩ : ((0 ≤ s7 ∧ s7 ≤ 5) ∧ (-1 ≤ s8 ∧ s8 < 16777472)) ∧ (-1 ≤ s9 ∧ s9 < 16777472) := by simpa [mayY, colY] using hq
   have HU := Lib.hid u0
   have HX := Lib.hid hx
   have HY := Lib.hid hy
   clear hq u0 u5 hx hy
   obtain ⟨a0, a1, a2, a3, a4, a5, a6, a7, a8, a9⟩ := Blk.cells10y (s := ⟨s0, s1, s2, s3, s4, s5, s6, s7, s8, s9⟩) kB
   go_enter Tryd.func56, Tryd.ntmps56
   go_wp2_with fail
   refine (HM.out _).mono ?_
   rintro e w1 ⟨rfl, hb1⟩
   have hB1 := HB.trans (hb1.mono HB.size)
   have k1 := kB.below hb1 kB.lt
   clear a0 a1 a2 a3 a4 a5 a6 a7 a8 a9 kB HB hb1 HM
   go_upto_region 4 with (fail)
   have hr1 : RowI (w1.alloc (.cells #[.int .i64 0] 3)) (w1.alloc (.cells #[.int .i64 0] 3)).heap.size 3 (some ⟨w1.heap.size, 0, none⟩) [0] := row_lit w1 [0]
   have qa : Below (w1.alloc (.cells #[.int .i64 0] 3)).heap.size (w1.alloc (.cells #[.int .i64 0] 3)) ((w1.alloc (.cells #[.int .i64 0] 3)).alloc (.cells #[.slice (some ⟨w1.heap.size, 0, none⟩) 1 1] 52)) := (Below.refl _ _).alloc (Nat.le_refl _) _
   have hB2 := (hB1.alloc hB1.size (.cells #[.int .i64 0] 3)).alloc (hB1.alloc hB1.size (.cells #[.int .i64 0] 3)).size (.cells #[.slice (some ⟨w1.heap.size, 0, none⟩) 1 1] 52)
   have k2 := (k1.alloc (.cells #[.int .i64 0] 3)).alloc (.cells #[.slice (some ⟨w1.heap.size, 0, none⟩) 1 1] 52)
   have h2 : RwP ((w1.alloc (.cells #[.int .i64 0] 3)).alloc (.cells #[.slice (some ⟨w1.heap.size, 0, none⟩) 1 1] 52)) w.heap.size (.slice (some ⟨w1.heap.size + 1, 0, none⟩) 1 1) 1 [[0]] := by
    have hmk := Own.made (w1.alloc (.cells #[.int .i64 0] 3)) w.heap.size 52 1 [.slice (some ⟨w1.heap.size, 0, none⟩) 1 1] rfl (hB1.alloc hB1.size (.cells #[.int .i64 0] 3)).size (by simp [maxLen])
    rw [World.size_alloc] at hmk
    refine ⟨_, hmk, ⟨rfl, fun k hk => ?_⟩, fun x hx => ⟨_, _, _, List.mem_singleton.1 hx, Nat.le_refl _⟩⟩
    have : k = 0 := by simpa using hk
    subst this
    exact ⟨_, _, rfl, hr1.keep qa.size (fun k hk _ => qa.block k hk)⟩
   obtain ⟨w2, hw2⟩ : ∃ w2, (w1.alloc (.cells #[.int .i64 0] 3)).alloc (.cells #[.slice (some ⟨w1.heap.size, 0, none⟩) 1 1] 52) = w2 := ⟨_, rfl⟩
   rw [hw2] at hB2 k2 h2 ⊢
   clear hw2 hr1 qa hB1 k1
   have N2 := Lib.hid (show 1 ≤ 2 by omega)
   have c0 : w2.cell? ⟨w.heap.size, 0, none⟩ = some (.bool s0) := k2.cell 0
   go_wp2_with fail
   refine (rone18_any w.heap.size _ 1 _ s0 1 w2 (by have := N2.out; omega) hB2.size h2).mono ?_
   rintro e w3 ⟨v3, rfl, h3, hb3⟩
   have hB3 := hB2.trans (hb3.mono hB2.size)
   have k3 := k2.below hb3 k2.lt
   obtain ⟨n3, en3⟩ : ∃ m, 1 + (oneY s0 1).length = m := ⟨_, rfl⟩
   rw [en3] at h3
   have N3 := Lib.hid (show n3 ≤ 3 by have := N2.out; have := one_le s0 1; omega)
   obtain ⟨A3, c_3, rfl, _⟩ := h3.rdp
   clear c0 hb3 h2 N2 k2 hB2 en3
   have c1 : w3.cell? ⟨w.heap.size, 1, none⟩ = some (.bool s1) := k3.cell 1
   go_wp2_with fail
   refine (rone18_any w.heap.size _ n3 _ s1 2 w3 (by have := N3.out; omega) hB3.size h3).mono ?_
   rintro e w4 ⟨v4, rfl, h4, hb4⟩
   have hB4 := hB3.trans (hb4.mono hB3.size)
   have k4 := k3.below hb4 k3.lt
   obtain ⟨n4, en4⟩ : ∃ m, n3 + (oneY s1 2).length = m := ⟨_, rfl⟩
   rw [en4] at h4
   have N4 := Lib.hid (show n4 ≤ 4 by have := N3.out; have := one_le s1 2; omega)
   obtain ⟨A4, c_4, rfl, _⟩ := h4.rdp
   clear c1 hb4 h3 N3 k3 hB3 en4
   have c2 : w4.cell? ⟨w.heap.size, 2, none⟩ = some (.bool s2) := k4.cell 2
   go_wp2_with fail
   refine (rone18_any w.heap.size _ n4 _ s2 3 w4 (by have := N4.out; omega) hB4.size h4).mono ?_
   rintro e w5 ⟨v5, rfl, h5, hb5⟩
   have hB5 := hB4.trans (hb5.mono hB4.size)
   have k5 := k4.below hb5 k4.lt
   obtain ⟨n5, en5⟩ : ∃ m, n4 + (oneY s2 3).length = m := ⟨_, rfl⟩
   rw [en5] at h5
   have N5 := Lib.hid (show n5 ≤ 5 by have := N4.out; have := one_le s2 3; omega)
   obtain ⟨A5, c_5, rfl, _⟩ := h5.rdp
   clear c2 hb5 h4 N4 k4 hB4 en5
   have c7 : w5.cell? ⟨w.heap.size, 7, none⟩ = some (.int .i64 s7) := k5.cell 7
   have hN5 := N5.out
   by_cases g1 : s7 = 1
   ·have HUN : Hid (underY s7 = [[4]]) := Lib.hid (by unfold underY; rw [if_pos g1])
    have t1 : (s7 == 1) = true := by simpa using g1
    have t2 : ¬ (1 < s7) := by omega
    clear g1
    go_wp2_with fail
    refine (rone18_any w.heap.size _ n5 _ true 4 w5 (by omega) hB5.size h5).mono ?_
    rintro e w6 ⟨v6, rfl, h6, hb6⟩
    have hB6 := hB5.trans (hb6.mono hB5.size)
    have k6 := k5.below hb6 k5.lt
    rw [show oneY true 4 = [[4]] from rfl, List.length_singleton] at h6
    obtain ⟨A6, c_6, rfl, _⟩ := h6.rdp
    clear c7 hb6 h5 k5 hB5 N5
    have c7 : w6.cell? ⟨w.heap.size, 7, none⟩ = some (.int .i64 s7) := k6.cell 7
    go_upto_region 12 with (fail)
    have h7 := h6
    have hB7 := hB6
    have k7 := k6
    obtain ⟨n7, en7⟩ : ∃ m, n5 + 1 = m := ⟨_, rfl⟩
    rw [en7] at h7 ⊢
    have N7 := Lib.hid (show n7 ≤ 7 by omega)
    clear en7
    obtain ⟨w7, hw7⟩ : ∃ W, W = w6 := ⟨_, rfl⟩
    rw [← hw7] at h7 hB7 k7 ⊢
    clear hw7 h6 hB6 k6 c7
    have c3 : w7.cell? ⟨w.heap.size, 3, none⟩ = some (.bool s3) := k7.cell 3
    go_wp2_with fail
    refine (rone18_any w.heap.size _ n7 _ s3 5 w7 (by have := N7.out; omega) hB7.size h7).mono ?_
    rintro e w8 ⟨v8, rfl, h8, hb8⟩
    have hB8 := hB7.trans (hb8.mono hB7.size)
    have k8 := k7.below hb8 k7.lt
    obtain ⟨n8, en8⟩ : ∃ m, n7 + (oneY s3 5).length = m := ⟨_, rfl⟩
    rw [en8] at h8
    have N8 := Lib.hid (show n8 ≤ 8 by have := N7.out; have := one_le s3 5; omega)
    obtain ⟨A8, c_8, rfl, _⟩ := h8.rdp
    clear c3 hb8 h7 N7 k7 hB7 en8
    have c4 : w8.cell? ⟨w.heap.size, 4, none⟩ = some (.bool s4) := k8.cell 4
    go_wp2_with fail
    refine (rone18_any w.heap.size _ n8 _ s4 7 w8 (by have := N8.out; omega) hB8.size h8).mono ?_
    rintro e w9 ⟨v9, rfl, h9, hb9⟩
    have hB9 := hB8.trans (hb9.mono hB8.size)
    have k9 := k8.below hb9 k8.lt
    obtain ⟨n9, en9⟩ : ∃ m, n8 + (oneY s4 7).length = m := ⟨_, rfl⟩
    rw [en9] at h9
    have N9 := Lib.hid (show n9 ≤ 9 by have := N8.out; have := one_le s4 7; omega)
    obtain ⟨A9, c_9, rfl, _⟩ := h9.rdp
    clear c4 hb9 h8 N8 k8 hB8 en9
    have c5 : w9.cell? ⟨w.heap.size, 5, none⟩ = some (.bool s5) := k9.cell 5
    go_wp2_with fail
    refine (rone18_any w.heap.size _ n9 _ s5 8 w9 (by have := N9.out; omega) hB9.size h9).mono ?_
    rintro e w10 ⟨v10, rfl, h10, hb10⟩
    have hB10 := hB9.trans (hb10.mono hB9.size)
    have k10 := k9.below hb10 k9.lt
    obtain ⟨n10, en10⟩ : ∃ m, n9 + (oneY s5 8).length = m := ⟨_, rfl⟩
    rw [en10] at h10
    have N10 := Lib.hid (show n10 ≤ 10 by have := N9.out; have := one_le s5 8; omega)
    obtain ⟨A10, c_10, rfl, _⟩ := h10.rdp
    clear c5 hb10 h9 N9 k9 hB9 en10
    have c6 : w10.cell? ⟨w.heap.size, 6, none⟩ = some (.bool s6) := k10.cell 6
    go_wp2_with fail
    refine (rone18_any w.heap.size _ n10 _ s6 9 w10 (by have := N10.out; omega) hB10.size h10).mono ?_
    rintro e w11 ⟨v11, rfl, h11, hb11⟩
    have hB11 := hB10.trans (hb11.mono hB10.size)
    have k11 := k10.below hb11 k10.lt
    obtain ⟨n11, en11⟩ : ∃ m, n10 + (oneY s6 9).length = m := ⟨_, rfl⟩
    rw [en11] at h11
    have N11 := Lib.hid (show n11 ≤ 11 by have := N10.out; have := one_le s6 9; omega)
    obtain ⟨A11, c_11, rfl, _⟩ := h11.rdp
    clear c6 hb11 h10 N10 k10 hB10 en11
    obtain ⟨x0, x1⟩ := HX.out
    obtain ⟨y0, y1⟩ := HY.out
    have c8 : w11.cell? ⟨w.heap.size, 8, none⟩ = some (.int .i64 s8) := k11.cell 8
    have c9 : w11.cell? ⟨w.heap.size, 9, none⟩ = some (.int .i64 s9) := k11.cell 9
    have hn11 := N11.out
    have hs11 := hB11.size
    go_upto_region 16 with (fail)
    go_region_held3 (fun W => W.cell? ⟨w.heap.size, 8, none⟩ = some (.int .i64 s8) ∧ W.cell? ⟨w.heap.size, 9, none⟩ = some (.int .i64 s9))
     (first
       | exact ⟨c8, c9⟩
       | exact ⟨d8, d9⟩
       | exact ⟨e8, e9⟩)
     (first
       | ((fail_if_success have := h12); go_at_call 74; refine (rtint18_any w.heap.size _ _ _ s8 30 (by decide) (by decide) x0 x1 w11.drew (by omega) hs11 h11).mono ?_; rintro e w12 ⟨v12, rfl, h12, hb12⟩
          have hb12 : Below w11.heap.size w11 w12 := (Below.refl _ _).drew.trans hb12
          have k12 := k11.below hb12 k11.lt
          have d8 : w12.cell? ⟨w.heap.size, 8, none⟩ = some (.int .i64 s8) := k12.cell 8
          have d9 : w12.cell? ⟨w.heap.size, 9, none⟩ = some (.int .i64 s9) := k12.cell 9
          have hB12 := hB11.trans (hb12.mono hB11.size)
          have hs12 := hB12.size)
       | (go_at_call 74; refine (rtint18_any w.heap.size _ _ _ s9 40 (by decide) (by decide) y0 y1 w12 (by have := tint_le s8 30; omega) hs12 h12).mono ?_; rintro e w13 ⟨v13, rfl, h13, hb13⟩
          have k13 := k12.below hb13 k12.lt
          have e8 : w13.cell? ⟨w.heap.size, 8, none⟩ = some (.int .i64 s8) := k13.cell 8
          have e9 : w13.cell? ⟨w.heap.size, 9, none⟩ = some (.int .i64 s9) := k13.cell 9))
    have hB13 := hB12.trans (hb13.mono hB12.size)
    go_wp2_with fail
    go_ret
    have hfin : RwP w13 w.heap.size v13 (n11 + (tintY s8 30).length + (tintY s9 40).length) (parY ⟨s0, s1, s2, s3, s4, s5, s6, s7, s8, s9⟩) := by
     rw [HP.out, HUN.out]
     simpa [oneY] using h13
    exact ⟨v13, _, rfl, hfin, hB13⟩
   by_cases g2 : 1 < s7
   ·have HUN : Hid (underY s7 = [[4, s7]]) := Lib.hid (by unfold underY; rw [if_neg g1, if_pos g2])
    have t1 : (s7 == 1) = false := beq_false_of_ne g1
    have t2 : 1 < s7 := g2
    clear g1 g2
    go_wp2_with fail
    refine (rone18_any w.heap.size _ n5 _ false 4 w5 (by omega) hB5.size h5).mono ?_
    rintro e w6 ⟨v6, rfl, h6, hb6⟩
    have hB6 := hB5.trans (hb6.mono hB5.size)
    have k6 := k5.below hb6 k5.lt
    rw [show oneY false 4 = [] from rfl, List.append_nil, List.length_nil, Nat.add_zero] at h6
    obtain ⟨A6, c_6, rfl, _⟩ := h6.rdp
    clear c7 hb6 h5 k5 hB5 N5
    have c7 : w6.cell? ⟨w.heap.size, 7, none⟩ = some (.int .i64 s7) := k6.cell 7
    generalize hps : ([[0]] ++ oneY s0 1 ++ oneY s1 2 ++ oneY s2 3 : List (List Int)) = ps6 at h6
    obtain ⟨xs, rr1, rr2, rr3⟩ := h6
    have hr0 := rr1.rd
    have hx1 : ∀ u ∈ xs, u.oneCell' = true := fun u hu => by obtain ⟨_, _, _, rfl, _⟩ := rr3 u hu; rfl
    have HXL : Hid (xs.length = n5) := Lib.hid (by have := rr1.1; omega)
    have hmk : Own (w6.alloc (.cells #[] 52)) w6.heap.size 52 1 (.slice (some ⟨w6.heap.size, 0, none⟩) 0 0) 0 [] := Own.of (World.ownsRow_made w6 #[] 0 (Nat.le_refl _) (by decide) rfl)
    have hr1k := Rd.alloc hr0 (.cells #[] 52)
    have qk : Below w6.heap.size w6 (w6.alloc (.cells #[] 52)) := (Below.refl _ _).alloc (Nat.le_refl _) _
    have szk := qk.size
    go_upto_region 12 with (first
     | (at_builtin; refine list_app _ rfl (.tmp 30) (.tmp 31) 28 rfl w6.heap.size 52 j0 _ 1 24 Tryd.underlying28 hj hy0 hy1 hy2 rfl Nat.one_pos (.slice (some ⟨w6.heap.size, 0, none⟩) 0 0) 0 [] rfl hmk A6 n5 c_6 xs rfl (by rw [HXL.out, Nat.mul_one]) hr1k hx1 (by simp only [maxLen]; omega) (by omega) szk ?_; intro v1 wa ho1 hg1
        have q1 := qk.grown hg1 szk (fun g hg => (hmk.lt g hg).1)
        have q1b := (q1.alloc q1.size (.cells #[.int .i64 4, .int .i64 s7] 3)).alloc (q1.alloc q1.size (.cells #[.int .i64 4, .int .i64 s7] 3)).size (.cells #[.slice (some ⟨wa.heap.size, 0, none⟩) 2 2] 52)
        have ho1b := (ho1.alloc (.cells #[.int .i64 4, .int .i64 s7] 3)).alloc (.cells #[.slice (some ⟨wa.heap.size, 0, none⟩) 2 2] 52)
        have hlit := rd_lit18 (wa.alloc (.cells #[.int .i64 4, .int .i64 s7] 3)) 52 (.slice (some ⟨wa.heap.size, 0, none⟩) 2 2)
        rw [World.size_alloc] at hlit
        have sz1 := q1b.size
        have c7' : wa.cell? ⟨w.heap.size, 7, none⟩ = some (.int .i64 s7) := (k6.below q1 k6.lt).cell 7
        have c7b := ((k6.below q1 k6.lt).alloc (.cells #[.int .i64 4, .int .i64 s7] 3)).cell 7)
     | (at_builtin; refine list_app _ rfl (.tmp 33) (.tmp 37) 28 rfl w6.heap.size 52 j0 _ 1 24 Tryd.underlying28 hj hy0 hy1 hy2 rfl Nat.one_pos v1 _ _ rfl ho1b (some ⟨wa.heap.size + 1, 0, none⟩) 1 1 [.slice (some ⟨wa.heap.size, 0, none⟩) 2 2] rfl rfl hlit (sl_one _ _ _) (by simp only [maxLen]; omega) (by omega) sz1 ?_; intro v7 w7 ho2 hg7))
    have q7 := q1b.grown hg7 sz1 (fun g hg => (ho1b.lt g hg).1)
    have h7 : RwP w7 w.heap.size v7 (n5 + 1) (ps6 ++ [[4, s7]]) := by
     have ho2' : Own w7 w.heap.size 52 1 v7 (n5 + 1) (xs ++ [.slice (some ⟨wa.heap.size, 0, none⟩) 2 2]) := by
      have := ho2.mono hB6.size
      simpa using this
     refine ⟨_, ho2', ?_, fun x hx => ?_⟩
     ·have hr1 : RowI (wa.alloc (.cells #[.int .i64 4, .int .i64 s7] 3)) (wa.alloc (.cells #[.int .i64 4, .int .i64 s7] 3)).heap.size 3 (some ⟨wa.heap.size, 0, none⟩) [4, s7] := row_lit wa [4, s7]
      have qa : Below (wa.alloc (.cells #[.int .i64 4, .int .i64 s7] 3)).heap.size (wa.alloc (.cells #[.int .i64 4, .int .i64 s7] 3)) ((wa.alloc (.cells #[.int .i64 4, .int .i64 s7] 3)).alloc (.cells #[.slice (some ⟨wa.heap.size, 0, none⟩) 2 2] 52)) := (Below.refl _ _).alloc (Nat.le_refl _) _
      exact ((rr2.keep q1b.size (fun k hk _ => q1b.block k hk)).keep hg7.size (keep_out ho1b (by decide) hg7)).snoc2 rfl ((hr1.keep qa.size (fun k hk _ => qa.block k hk)).keep hg7.size (keep_out ho1b (by decide) hg7))
     ·rcases List.mem_append.1 hx with hx | hx
      ·exact rr3 x hx
      ·exact ⟨_, _, _, List.mem_singleton.1 hx, Nat.le_refl _⟩
    clear hmk hr1k qk szk ho1 hg1 q1 q1b ho1b hlit sz1 ho2 hg7 rr1 rr2 rr3 hr0 hx1
    rw [← hps] at h7
    clear hps
    have hB7 := hB6.trans (q7.mono hB6.size)
    have k7 := k6.below q7 k6.lt
    obtain ⟨n7, en7⟩ : ∃ m, n5 + 1 = m := ⟨_, rfl⟩
    rw [en7] at h7
    have N7 := Lib.hid (show n7 ≤ 7 by omega)
    obtain ⟨A7, c_7, rfl, _⟩ := h7.rdp
    clear q7 k6 hB6 en7
    have c3 : w7.cell? ⟨w.heap.size, 3, none⟩ = some (.bool s3) := k7.cell 3
    go_wp2_with fail
    refine (rone18_any w.heap.size _ n7 _ s3 5 w7 (by have := N7.out; omega) hB7.size h7).mono ?_
    rintro e w8 ⟨v8, rfl, h8, hb8⟩
    have hB8 := hB7.trans (hb8.mono hB7.size)
    have k8 := k7.below hb8 k7.lt
    obtain ⟨n8, en8⟩ : ∃ m, n7 + (oneY s3 5).length = m := ⟨_, rfl⟩
    rw [en8] at h8
    have N8 := Lib.hid (show n8 ≤ 8 by have := N7.out; have := one_le s3 5; omega)
    obtain ⟨A8, c_8, rfl, _⟩ := h8.rdp
    clear c3 hb8 h7 N7 k7 hB7 en8
    have c4 : w8.cell? ⟨w.heap.size, 4, none⟩ = some (.bool s4) := k8.cell 4
    go_wp2_with fail
    refine (rone18_any w.heap.size _ n8 _ s4 7 w8 (by have := N8.out; omega) hB8.size h8).mono ?_
    rintro e w9 ⟨v9, rfl, h9, hb9⟩
    have hB9 := hB8.trans (hb9.mono hB8.size)
    have k9 := k8.below hb9 k8.lt
    obtain ⟨n9, en9⟩ : ∃ m, n8 + (oneY s4 7).length = m := ⟨_, rfl⟩
    rw [en9] at h9
    have N9 := Lib.hid (show n9 ≤ 9 by have := N8.out; have := one_le s4 7; omega)
    obtain ⟨A9, c_9, rfl, _⟩ := h9.rdp
    clear c4 hb9 h8 N8 k8 hB8 en9
    have c5 : w9.cell? ⟨w.heap.size, 5, none⟩ = some (.bool s5) := k9.cell 5
    go_wp2_with fail
    refine (rone18_any w.heap.size _ n9 _ s5 8 w9 (by have := N9.out; omega) hB9.size h9).mono ?_
    rintro e w10 ⟨v10, rfl, h10, hb10⟩
    have hB10 := hB9.trans (hb10.mono hB9.size)
    have k10 := k9.below hb10 k9.lt
    obtain ⟨n10, en10⟩ : ∃ m, n9 + (oneY s5 8).length = m := ⟨_, rfl⟩
    rw [en10] at h10
    have N10 := Lib.hid (show n10 ≤ 10 by have := N9.out; have := one_le s5 8; omega)
    obtain ⟨A10, c_10, rfl, _⟩ := h10.rdp
    clear c5 hb10 h9 N9 k9 hB9 en10
    have c6 : w10.cell? ⟨w.heap.size, 6, none⟩ = some (.bool s6) := k10.cell 6
    go_wp2_with fail
    refine (rone18_any w.heap.size _ n10 _ s6 9 w10 (by have := N10.out; omega) hB10.size h10).mono ?_
    rintro e w11 ⟨v11, rfl, h11, hb11⟩
    have hB11 := hB10.trans (hb11.mono hB10.size)
    have k11 := k10.below hb11 k10.lt
    obtain ⟨n11, en11⟩ : ∃ m, n10 + (oneY s6 9).length = m := ⟨_, rfl⟩
    rw [en11] at h11
    have N11 := Lib.hid (show n11 ≤ 11 by have := N10.out; have := one_le s6 9; omega)
    obtain ⟨A11, c_11, rfl, _⟩ := h11.rdp
    clear c6 hb11 h10 N10 k10 hB10 en11
    obtain ⟨x0, x1⟩ := HX.out
    obtain ⟨y0, y1⟩ := HY.out
    have c8 : w11.cell? ⟨w.heap.size, 8, none⟩ = some (.int .i64 s8) := k11.cell 8
    have c9 : w11.cell? ⟨w.heap.size, 9, none⟩ = some (.int .i64 s9) := k11.cell 9
    have hn11 := N11.out
    have hs11 := hB11.size
    go_upto_region 16 with (fail)
    go_region_held3 (fun W => W.cell? ⟨w.heap.size, 8, none⟩ = some (.int .i64 s8) ∧ W.cell? ⟨w.heap.size, 9, none⟩ = some (.int .i64 s9))
     (first
       | exact ⟨c8, c9⟩
       | exact ⟨d8, d9⟩
       | exact ⟨e8, e9⟩)
     (first
       | ((fail_if_success have := h12); go_at_call 74; refine (rtint18_any w.heap.size _ _ _ s8 30 (by decide) (by decide) x0 x1 w11.drew (by omega) hs11 h11).mono ?_; rintro e w12 ⟨v12, rfl, h12, hb12⟩
          have hb12 : Below w11.heap.size w11 w12 := (Below.refl _ _).drew.trans hb12
          have k12 := k11.below hb12 k11.lt
          have d8 : w12.cell? ⟨w.heap.size, 8, none⟩ = some (.int .i64 s8) := k12.cell 8
          have d9 : w12.cell? ⟨w.heap.size, 9, none⟩ = some (.int .i64 s9) := k12.cell 9
          have hB12 := hB11.trans (hb12.mono hB11.size)
          have hs12 := hB12.size)
       | (go_at_call 74; refine (rtint18_any w.heap.size _ _ _ s9 40 (by decide) (by decide) y0 y1 w12 (by have := tint_le s8 30; omega) hs12 h12).mono ?_; rintro e w13 ⟨v13, rfl, h13, hb13⟩
          have k13 := k12.below hb13 k12.lt
          have e8 : w13.cell? ⟨w.heap.size, 8, none⟩ = some (.int .i64 s8) := k13.cell 8
          have e9 : w13.cell? ⟨w.heap.size, 9, none⟩ = some (.int .i64 s9) := k13.cell 9))
    have hB13 := hB12.trans (hb13.mono hB12.size)
    go_wp2_with fail
    go_ret
    have hfin : RwP w13 w.heap.size v13 (n11 + (tintY s8 30).length + (tintY s9 40).length) (parY ⟨s0, s1, s2, s3, s4, s5, s6, s7, s8, s9⟩) := by
     rw [HP.out, HUN.out]
     simpa [oneY] using h13
    exact ⟨v13, _, rfl, hfin, hB13⟩
   have HUN : Hid (underY s7 = []) := Lib.hid (by unfold underY; rw [if_neg (by omega), if_neg (by omega)])
   have t1 : (s7 == 1) = false := beq_false_of_ne g1
   have t2 : ¬ (1 < s7) := g2
   clear g1 g2
   go_wp2_with fail
   refine (rone18_any w.heap.size _ n5 _ false 4 w5 (by omega) hB5.size h5).mono ?_
   rintro e w6 ⟨v6, rfl, h6, hb6⟩
   have hB6 := hB5.trans (hb6.mono hB5.size)
   have k6 := k5.below hb6 k5.lt
   rw [show oneY false 4 = [] from rfl, List.append_nil, List.length_nil, Nat.add_zero] at h6
   obtain ⟨A6, c_6, rfl, _⟩ := h6.rdp
   clear c7 hb6 h5 k5 hB5 N5
   have c7 : w6.cell? ⟨w.heap.size, 7, none⟩ = some (.int .i64 s7) := k6.cell 7
   go_upto_region 12 with (fail)
   have h7 := h6
   have hB7 := hB6
   have k7 := k6
   obtain ⟨n7, en7⟩ : ∃ m, m = n5 := ⟨_, rfl⟩
   rw [← en7] at h7 ⊢
   have N7 := Lib.hid (show n7 ≤ 7 by omega)
   clear en7
   obtain ⟨w7, hw7⟩ : ∃ W, W = w6 := ⟨_, rfl⟩
   rw [← hw7] at h7 hB7 k7 ⊢
   clear hw7 h6 hB6 k6 c7
   have c3 : w7.cell? ⟨w.heap.size, 3, none⟩ = some (.bool s3) := k7.cell 3
   go_wp2_with fail
   refine (rone18_any w.heap.size _ n7 _ s3 5 w7 (by have := N7.out; omega) hB7.size h7).mono ?_
   rintro e w8 ⟨v8, rfl, h8, hb8⟩
   have hB8 := hB7.trans (hb8.mono hB7.size)
   have k8 := k7.below hb8 k7.lt
   obtain ⟨n8, en8⟩ : ∃ m, n7 + (oneY s3 5).length = m := ⟨_, rfl⟩
   rw [en8] at h8
   have N8 := Lib.hid (show n8 ≤ 8 by have := N7.out; have := one_le s3 5; omega)
   obtain ⟨A8, c_8, rfl, _⟩ := h8.rdp
   clear c3 hb8 h7 N7 k7 hB7 en8
   have c4 : w8.cell? ⟨w.heap.size, 4, none⟩ = some (.bool s4) := k8.cell 4
   go_wp2_with fail
   refine (rone18_any w.heap.size _ n8 _ s4 7 w8 (by have := N8.out; omega) hB8.size h8).mono ?_
   rintro e w9 ⟨v9, rfl, h9, hb9⟩
   have hB9 := hB8.trans (hb9.mono hB8.size)
   have k9 := k8.below hb9 k8.lt
   obtain ⟨n9, en9⟩ : ∃ m, n8 + (oneY s4 7).length = m := ⟨_, rfl⟩
   rw [en9] at h9
   have N9 := Lib.hid (show n9 ≤ 9 by have := N8.out; have := one_le s4 7; omega)
   obtain ⟨A9, c_9, rfl, _⟩ := h9.rdp
   clear c4 hb9 h8 N8 k8 hB8 en9
   have c5 : w9.cell? ⟨w.heap.size, 5, none⟩ = some (.bool s5) := k9.cell 5
   go_wp2_with fail
   refine (rone18_any w.heap.size _ n9 _ s5 8 w9 (by have := N9.out; omega) hB9.size h9).mono ?_
   rintro e w10 ⟨v10, rfl, h10, hb10⟩
   have hB10 := hB9.trans (hb10.mono hB9.size)
   have k10 := k9.below hb10 k9.lt
   obtain ⟨n10, en10⟩ : ∃ m, n9 + (oneY s5 8).length = m := ⟨_, rfl⟩
   rw [en10] at h10
   have N10 := Lib.hid (show n10 ≤ 10 by have := N9.out; have := one_le s5 8; omega)
   obtain ⟨A10, c_10, rfl, _⟩ := h10.rdp
   clear c5 hb10 h9 N9 k9 hB9 en10
   have c6 : w10.cell? ⟨w.heap.size, 6, none⟩ = some (.bool s6) := k10.cell 6
   go_wp2_with fail
   refine (rone18_any w.heap.size _ n10 _ s6 9 w10 (by have := N10.out; omega) hB10.size h10).mono ?_
   rintro e w11 ⟨v11, rfl, h11, hb11⟩
   have hB11 := hB10.trans (hb11.mono hB10.size)
   have k11 := k10.below hb11 k10.lt
   obtain ⟨n11, en11⟩ : ∃ m, n10 + (oneY s6 9).length = m := ⟨_, rfl⟩
   rw [en11] at h11
   have N11 := Lib.hid (show n11 ≤ 11 by have := N10.out; have := one_le s6 9; omega)
   obtain ⟨A11, c_11, rfl, _⟩ := h11.rdp
   clear c6 hb11 h10 N10 k10 hB10 en11
   obtain ⟨x0, x1⟩ := HX.out
   obtain ⟨y0, y1⟩ := HY.out
   have c8 : w11.cell? ⟨w.heap.size, 8, none⟩ = some (.int .i64 s8) := k11.cell 8
   have c9 : w11.cell? ⟨w.heap.size, 9, none⟩ = some (.int .i64 s9) := k11.cell 9
   have hn11 := N11.out
   have hs11 := hB11.size
   go_upto_region 16 with (fail)
   go_region_held3 (fun W => W.cell? ⟨w.heap.size, 8, none⟩ = some (.int .i64 s8) ∧ W.cell? ⟨w.heap.size, 9, none⟩ = some (.int .i64 s9))
    (first
      | exact ⟨c8, c9⟩
      | exact ⟨d8, d9⟩
      | exact ⟨e8, e9⟩)
    (first
      | ((fail_if_success have := h12); go_at_call 74; refine (rtint18_any w.heap.size _ _ _ s8 30 (by decide) (by decide) x0 x1 w11.drew (by omega) hs11 h11).mono ?_; rintro e w12 ⟨v12, rfl, h12, hb12⟩
         have hb12 : Below w11.heap.size w11 w12 := (Below.refl _ _).drew.trans hb12
         have k12 := k11.below hb12 k11.lt
         have d8 : w12.cell? ⟨w.heap.size, 8, none⟩ = some (.int .i64 s8) := k12.cell 8
         have d9 : w12.cell? ⟨w.heap.size, 9, none⟩ = some (.int .i64 s9) := k12.cell 9
         have hB12 := hB11.trans (hb12.mono hB11.size)
         have hs12 := hB12.size)
      | (go_at_call 74; refine (rtint18_any w.heap.size _ _ _ s9 40 (by decide) (by decide) y0 y1 w12 (by have := tint_le s8 30; omega) hs12 h12).mono ?_; rintro e w13 ⟨v13, rfl, h13, hb13⟩
         have k13 := k12.below hb13 k12.lt
         have e8 : w13.cell? ⟨w.heap.size, 8, none⟩ = some (.int .i64 s8) := k13.cell 8
         have e9 : w13.cell? ⟨w.heap.size, 9, none⟩ = some (.int .i64 s9) := k13.cell 9))
   have hB13 := hB12.trans (hb13.mono hB12.size)
   go_wp2_with fail
   go_ret
   have hfin : RwP w13 w.heap.size v13 (n11 + (tintY s8 30).length + (tintY s9 40).length) (parY ⟨s0, s1, s2, s3, s4, s5, s6, s7, s8, s9⟩) := by
    rw [HP.out, HUN.out]
    simpa [oneY] using h13
   exact ⟨v13, _, rfl, hfin, hB13⟩
end Go.Proofs.YtfifeofmfpjgfaaDoor
