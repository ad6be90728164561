/-
  Layer 16, walked over the landed mouse: MouseLost.
-/
import Derived.Test.YtjlhhelikiegdaaDoorG15
import Derived.Test.YtjlhhelikiegdaaDoorG44
namespace Go.Proofs.YtjlhhelikiegdaaDoor
open Go.RowKit
set_option maxRecDepth 100000 in
set_option maxHeartbeats 16000000 in
theorem mouseLost_walk (e f : Ms) (n : Int) (n0 : 0 ≤ n) (_n255 : n ≤ 255) (w : World) (hi : Siz w ∧ Tab w) : Calls Tryd.prog 5 #[msV e, msV f, .int .u8 n] w fun e w' => e = .returned (.bool true) ∧ Below w.heap.size w w' := by
 obtain ⟨btn, typ, x, y, md⟩ := e
 obtain ⟨fb, ft, fx, fy, fm⟩ := f
 unfold msV
 simp only
 obtain ⟨p, hp⟩ : ∃ p, mayT ⟨btn, typ, x, y, md⟩ = p := ⟨_, rfl⟩
 obtain ⟨q, hq⟩ : ∃ q, mayT ⟨fb, ft, fx, fy, fm⟩ = q := ⟨_, rfl⟩
 have HT : Hid (∀ W, Below w.heap.size w W → Tab W) := Lib.hid fun W hW => hi.2.below hW
 have HS : Hid (∀ W, Below w.heap.size w W → Siz W) := Lib.hid fun W hW => hi.1.below' hW
 have HME : Hid (∀ W, Calls Tryd.prog 8 #[.agg #[.int .i64 btn, .int .i64 typ, .int .i64 x, .int .i64 y, .int .i64 md]] W fun e w' => e = .returned (.bool p) ∧ Below W.heap.size W w') := Lib.hid fun W => by
  have := rmay15_any ⟨btn, typ, x, y, md⟩ W
  rw [hp] at this
  exact this
 have HMF : Hid (∀ W, Calls Tryd.prog 8 #[.agg #[.int .i64 fb, .int .i64 ft, .int .i64 fx, .int .i64 fy, .int .i64 fm]] W fun e w' => e = .returned (.bool q) ∧ Below W.heap.size W w') := Lib.hid fun W => by
  have := rmay15_any ⟨fb, ft, fx, fy, fm⟩ W
  rw [hq] at this
  exact this
 have ke := (Blk.new w 23 #[.int .i64 btn, .int .i64 typ, .int .i64 x, .int .i64 y, .int .i64 md]).alloc (.cells #[.int .i64 fb, .int .i64 ft, .int .i64 fx, .int .i64 fy, .int .i64 fm] 23)
 have kf := Blk.new (w.alloc (.cells #[.int .i64 btn, .int .i64 typ, .int .i64 x, .int .i64 y, .int .i64 md] 23)) 23 #[.int .i64 fb, .int .i64 ft, .int .i64 fx, .int .i64 fy, .int .i64 fm]
 rw [World.size_alloc] at kf
 have HB0 : Below w.heap.size w ((w.alloc (.cells #[.int .i64 btn, .int .i64 typ, .int .i64 x, .int .i64 y, .int .i64 md] 23)).alloc (.cells #[.int .i64 fb, .int .i64 ft, .int .i64 fx, .int .i64 fy, .int .i64 fm] 23)) := ((Below.refl _ w).alloc (Nat.le_refl _) _).alloc (by simp) _
 cases p with
 | false =>
   clear hp HMF
   go_enter Tryd.func5, Tryd.ntmps5
   go_wp2_with fail
   refine (mouAwake _ (HT.out _ HB0) (HS.out _ HB0)).mono ?_
   rintro e w1 ⟨rfl, hb1⟩
   have hB1 := HB0.trans (hb1.mono HB0.size)
   obtain ⟨a0, a1, a2, a3, a4⟩ := Blk.cells5 (ke.below hb1 ke.lt)
   go_wp2_with fail
   refine (HME.out _).mono ?_
   rintro e w2 ⟨rfl, hb2⟩
   go_wp2_with fail
   go_ret
   exact ⟨rfl, hB1.trans (hb2.mono hB1.size)⟩
 | true =>
 cases q with
 | false =>
   clear hp
   go_enter Tryd.func5, Tryd.ntmps5
   go_wp2_with fail
   refine (mouAwake _ (HT.out _ HB0) (HS.out _ HB0)).mono ?_
   rintro e w1 ⟨rfl, hb1⟩
   have hB1 := HB0.trans (hb1.mono HB0.size)
   have ke1 := ke.below hb1 ke.lt
   have kf1 := kf.below hb1 kf.lt
   obtain ⟨a0, a1, a2, a3, a4⟩ := Blk.cells5 ke1
   go_wp2_with fail
   refine (HME.out _).mono ?_
   rintro e w2 ⟨rfl, hb2⟩
   obtain ⟨b0, b1, b2, b3, b4⟩ := Blk.cells5 (kf1.below hb2 kf1.lt)
   have hB2 := hB1.trans (hb2.mono hB1.size)
   go_wp2_with fail
   refine (HMF.out _).mono ?_
   rintro e w3 ⟨rfl, hb3⟩
   go_wp2_with fail
   go_ret
   exact ⟨rfl, hB2.trans (hb3.mono hB2.size)⟩
 | true =>
   obtain ⟨k, cv, hk, hkt, hcv, har⟩ : ∃ (k : Nat) (cv : Int), k < 3 ∧ Int.tmod n 3 = (k : Int) ∧ (cv = 0 ∨ cv = 1005 ∨ cv = 1015) ∧ ∀ W : World, (W.alloc (.cells #[.int .i64 0, .int .i64 1005, .int .i64 1015] 3)).cell? ⟨W.heap.size, k, none⟩ = some (.int .i64 cv) := by
    have e := Int.tmod_eq_emod_of_nonneg (b := 3) n0
    have h : n % 3 = 0 ∨ n % 3 = 1 ∨ n % 3 = 2 := by omega
    have bl := fun W : World => Blk.new W 3 #[.int .i64 0, .int .i64 1005, .int .i64 1015]
    rcases h with h | h | h
    ·exact ⟨0, 0, by omega, by rw [e, h]; rfl, by omega, fun W => (bl W).cell 0⟩
    ·exact ⟨1, 1005, by omega, by rw [e, h]; rfl, by omega, fun W => (bl W).cell 1⟩
    ·exact ⟨2, 1015, by omega, by rw [e, h]; rfl, by omega, fun W => (bl W).cell 2⟩
   obtain ⟨L1, hL1⟩ : ∃ L, encM 1003 cv ⟨btn, typ, x, y, md⟩ = L := ⟨_, rfl⟩
   obtain ⟨L2, hL2⟩ : ∃ L, encM 1003 cv ⟨fb, ft, fx, fy, fm⟩ = L := ⟨_, rfl⟩
   obtain ⟨n1, hn1⟩ : ∃ n, L1.length = n := ⟨_, rfl⟩
   obtain ⟨n2, hn2⟩ : ∃ n, L2.length = n := ⟨_, rfl⟩
   have hci : -9223372036854775808 ≤ cv ∧ cv ≤ 9223372036854775807 := by omega
   have H1 := Lib.hid (enc_k 1003 cv ⟨btn, typ, x, y, md⟩ hci L1 n1 hL1 hn1 w hi.2 hi.1)
   have H2 := Lib.hid (enc_k 1003 cv ⟨fb, ft, fx, fy, fm⟩ hci L2 n2 hL2 hn2 w hi.2 hi.1)
   have hlo := fun a b => mou_lost hp hq hcv (e := ⟨btn, typ, x, y, md⟩) (f := ⟨fb, ft, fx, fy, fm⟩) a b
   rw [hL1, hL2] at hlo
   simp only at hlo
   obtain ⟨_, ⟨m0, m1⟩, _⟩ := may_rng hp
   obtain ⟨_, ⟨f0, f1⟩, _⟩ := may_rng hq
   simp only at m0 m1 f0 f1
   have tm : Int.tmod md 8 = md % 8 := Int.tmod_eq_emod_of_nonneg m0
   have tf : Int.tmod fm 8 = fm % 8 := Int.tmod_eq_emod_of_nonneg f0
   obtain ⟨r, hr⟩ : ∃ r : Bool, r = true ↔ L1 = L2 := by
    by_cases h : L1 = L2
    ·exact ⟨true, by simp [h]⟩
    ·exact ⟨false, by simp [h]⟩
   have HSE := Lib.hid fun x y w => seq_eql L1 L2 r hr x y w
   have HN1 := Lib.hid hn1
   have HN2 := Lib.hid hn2
   have HLO : Hid (n1 ≠ 0 → n2 ≠ 0 → (r = true ↔ (typ = ft ∧ md % 8 = fm % 8 ∧ (typ = 3 ∨ btn = fb)) ∧ x = fx ∧ y = fy)) := Lib.hid fun a b => hr.trans (hlo (fun e => a (by rw [← hn1, e]; rfl)) (fun e => b (by rw [← hn2, e]; rfl)))
   have hk0 : (0 : Int) ≤ (k : Int) := by omega
   have hk3 : (k : Int) < 3 := by omega
   have HAR := Lib.hid har
   clear hp hq hL1 hL2 hn1 hn2 hlo hr hi hcv hci har
   go_enter Tryd.func5, Tryd.ntmps5
   go_wp2_with fail
   refine (mouAwake _ (HT.out _ HB0) (HS.out _ HB0)).mono ?_
   rintro e w1 ⟨rfl, hb1⟩
   have hB1 := HB0.trans (hb1.mono HB0.size)
   have ke1 := ke.below hb1 ke.lt
   have kf1 := kf.below hb1 kf.lt
   clear hb1 HB0 ke kf
   obtain ⟨a0, a1, a2, a3, a4⟩ := Blk.cells5 ke1
   go_wp2_with fail
   refine (HME.out _).mono ?_
   rintro e w2 ⟨rfl, hb2⟩
   have hB2 := hB1.trans (hb2.mono hB1.size)
   have ke2 := ke1.below hb2 ke1.lt
   have kf2 := kf1.below hb2 kf1.lt
   clear hb2 hB1 ke1 kf1 HME a0 a1 a2 a3 a4
   obtain ⟨b0, b1, b2, b3, b4⟩ := Blk.cells5 kf2
   go_wp2_with fail
   refine (HMF.out _).mono ?_
   rintro e w3 ⟨rfl, hb3⟩
   have hB3 := hB2.trans (hb3.mono hB2.size)
   have ke3 := ke2.below hb3 ke2.lt
   have kf3 := kf2.below hb3 kf2.lt
   clear hb3 hB2 ke2 kf2 HMF b0 b1 b2 b3 b4
   obtain ⟨a0, a1, a2, a3, a4⟩ := Blk.cells5 ke3
   have kx := HAR.out w3
   replace ke3 := ke3.alloc (.cells #[.int .i64 0, .int .i64 1005, .int .i64 1015] 3)
   replace kf3 := kf3.alloc (.cells #[.int .i64 0, .int .i64 1005, .int .i64 1015] 3)
   replace hB3 := hB3.alloc hB3.size (.cells #[.int .i64 0, .int .i64 1005, .int .i64 1015] 3)
   clear a0 a1 a2 a3 a4
   obtain ⟨a0, a1, a2, a3, a4⟩ := Blk.cells5 ke3
   go_wp2_with fail
   refine (H1.out _ hB3).mono ?_
   rintro e w4 ⟨A1, c1, rfl, hc1, hr1, hb4⟩
   have hB4 := hB3.trans (hb4.mono hB3.size)
   have ke4 := ke3.below hb4 ke3.lt
   have kf4 := kf3.below hb4 kf3.lt
   clear hb4 hB3 ke3 kf3 a0 a1 a2 a3 a4 H1
   obtain ⟨b0, b1, b2, b3, b4⟩ := Blk.cells5 kf4
   go_wp2_with fail
   refine (H2.out _ hB4).mono ?_
   rintro e w5 ⟨A2, c2, rfl, hc2, hr2, hb5⟩
   have hB5 := hB4.trans (hb5.mono hB4.size)
   have ke5 := ke4.below hb5 ke4.lt
   have kf5 := kf4.below hb5 kf4.lt
   replace hr1 := hr1.below hb5
   clear hb5 hB4 ke4 kf4 b0 b1 b2 b3 b4 H2
   clear kx
   by_cases e1 : n1 = 0
   ·subst e1
    go_wp2_with fail
    go_ret
    exact ⟨rfl, hB5⟩
   have t1 : ((n1 : Int) == 0) = false := beq_false_of_ne (by omega)
   by_cases e2 : n2 = 0
   ·subst e2
    go_wp2_with fail
    go_ret
    exact ⟨rfl, hB5⟩
   have t2 : ((n2 : Int) == 0) = false := beq_false_of_ne (by omega)
   have HLQ := Lib.hid (HLO.out e1 e2)
   clear HLO e1 e2
   obtain ⟨a0, a1, a2, a3, a4⟩ := Blk.cells5 ke5
   obtain ⟨b0, b1, b2, b3, b4⟩ := Blk.cells5 kf5
   have z4 := ke5.frozen 4
   have y4 := kf5.frozen 4
   have s1 := ((hr1.off_key ke5 rfl).fr (Fr.setCell w5 (w.heap.size) 4 (.int .i64 (md % 8)) (fun k => k = w.heap.size) rfl) (Wid.refl _ _)).rd
   have s2 := ((hr2.off_key ke5 rfl).fr (Fr.setCell w5 (w.heap.size) 4 (.int .i64 (md % 8)) (fun k => k = w.heap.size) rfl) (Wid.refl _ _)).rd
   have m1x := ke5.set 4 (.int .i64 (md % 8))
   have m2x := kf5.far (a := ⟨w.heap.size, 4, none⟩) (show w.heap.size + 1 ≠ w.heap.size by omega) (.int .i64 (md % 8))
   have m3x := hB5.setCell (p := ⟨w.heap.size, 4, none⟩) (show w.heap.size ≤ w.heap.size by omega) (.int .i64 (md % 8))
   obtain ⟨w6, hw6⟩ : ∃ W, w5.setCell ⟨w.heap.size, 4, none⟩ (.int .i64 (md % 8)) = W := ⟨_, rfl⟩
   rw [hw6] at s1 s2 m1x m2x m3x
   clear hr1 hr2 ke5 kf5 hB5
   have hr1 := s1
   have hr2 := s2
   clear s1 s2
   have y5 := m2x.frozen 4
   have b45 := m2x.cell 4
   have s1 := ((hr1.off_key m2x rfl).fr (Fr.setCell w6 (w.heap.size + 1) 4 (.int .i64 (fm % 8)) (fun k => k = w.heap.size + 1) rfl) (Wid.refl _ _)).rd
   have s2 := ((hr2.off_key m2x rfl).fr (Fr.setCell w6 (w.heap.size + 1) 4 (.int .i64 (fm % 8)) (fun k => k = w.heap.size + 1) rfl) (Wid.refl _ _)).rd
   have q1 := m2x.set 4 (.int .i64 (fm % 8))
   have q2 := m1x.far (a := ⟨w.heap.size + 1, 4, none⟩) (show w.heap.size ≠ w.heap.size + 1 by omega) (.int .i64 (fm % 8))
   have q3 := m3x.setCell (p := ⟨w.heap.size + 1, 4, none⟩) (show w.heap.size ≤ w.heap.size + 1 by omega) (.int .i64 (fm % 8))
   obtain ⟨w7, hw7⟩ : ∃ W, w6.setCell ⟨w.heap.size + 1, 4, none⟩ (.int .i64 (fm % 8)) = W := ⟨_, rfl⟩
   rw [hw7] at s1 s2 q1 q2 q3
   clear hr1 hr2 m1x m2x m3x
   obtain ⟨d0, d1, d2, d3, d4⟩ := Blk.cells5 q2
   obtain ⟨g0, g1, g2, g3, g4⟩ := Blk.cells5 q1
   by_cases h3 : typ = 3
   ·by_cases h4 : ft = 3
    ·have HMM := Lib.hid fun X Y w => ms_eql fb typ x y (md % 8) fb ft fx fy (fm % 8) r (HLQ.out.trans (by rw [Ms.mk.injEq]; constructor <;> (intro h; omega))) X Y w
     clear HLQ
     have t3 : (typ == 3) = true := by rw [h3]; rfl
     have t4 : (ft == 3) = true := by rw [h4]; rfl
     clear h3 h4
     have y0 := q2.frozen 0
     have s1 := ((s1.off_key q2 rfl).fr (Fr.setCell w7 (w.heap.size) 0 (.int .i64 fb) (fun k => k = w.heap.size) rfl) (Wid.refl _ _)).rd
     have s2 := ((s2.off_key q2 rfl).fr (Fr.setCell w7 (w.heap.size) 0 (.int .i64 fb) (fun k => k = w.heap.size) rfl) (Wid.refl _ _)).rd
     have u1 := q2.set 0 (.int .i64 fb)
     have u2 := q1.far (a := ⟨w.heap.size, 0, none⟩) (show w.heap.size + 1 ≠ w.heap.size by omega) (.int .i64 fb)
     have u3 := q3.setCell (p := ⟨w.heap.size, 0, none⟩) (show w.heap.size ≤ w.heap.size by omega) (.int .i64 fb)
     obtain ⟨w8, hw8⟩ : ∃ W, w7.setCell ⟨w.heap.size, 0, none⟩ (.int .i64 fb) = W := ⟨_, rfl⟩
     rw [hw8] at s1 s2 u1 u2 u3
     clear q1 q2 q3
     have hst : ∀ f ∈ ([] : List Fact), f.ok := fun _ h => by cases h
     go_upto_region 13 with (fail)
     try rw [hw6]
     try rw [hw7]
     try rw [hw8]
     refine wp_region_told (w1 := w8) (K := []) (ix := 1000) (R0 := fun _ _ _ => True) (R1 := fun _ _ _ => True) [] (⟨#[.agg #[.int .i64 btn, .int .i64 typ, .int .i64 x, .int .i64 y, .int .i64 md], .agg #[.int .i64 fb, .int .i64 ft, .int .i64 fx, .int .i64 fy, .int .i64 fm], .int .u8 n, .pointer (some ⟨w.heap.size, 0, none⟩), .pointer (some ⟨w.heap.size + 1, 0, none⟩), undef, .bool true, .bool true, .int .i64 cv, .slice A1 n1 c1, .slice A2 n2 c2, .bool true, .agg #[.int .i64 btn, .int .i64 typ, .int .i64 x, .int .i64 y, .int .i64 md], .bool true, .bool false, .bool false, .agg #[.int .i64 fb, .int .i64 ft, .int .i64 fx, .int .i64 fy, .int .i64 fm], .bool true, .bool false, .bool false, undef, .slice (some ⟨w3.heap.size, 0, none⟩) 3 3, .int .u8 n, .int .u8 (k : Int), .pointer (some ⟨w3.heap.size, k, none⟩), .int .i64 cv, .int .i64 cv, .agg #[.int .i64 btn, .int .i64 typ, .int .i64 x, .int .i64 y, .int .i64 md], .slice A1 n1 c1, .int .i64 cv, .agg #[.int .i64 fb, .int .i64 ft, .int .i64 fx, .int .i64 fy, .int .i64 fm], .slice A2 n2 c2, .slice A1 n1 c1, .int .i64 (n1 : Int), .bool false, .bool false, .slice A2 n2 c2, .int .i64 (n2 : Int), .bool false, .bool false, undef, .pointer (some ⟨w.heap.size, 4, none⟩), .int .i64 md, .int .i64 (md % 8), .pointer (some ⟨w.heap.size, 4, none⟩), .pointer (some ⟨w.heap.size + 1, 4, none⟩), .int .i64 fm, .int .i64 (fm % 8), .pointer (some ⟨w.heap.size + 1, 4, none⟩), .pointer (some ⟨w.heap.size, 1, none⟩), .int .i64 typ, .bool true, .bool true, .pointer (some ⟨w.heap.size + 1, 1, none⟩), .int .i64 ft, .bool true, .bool true, .pointer (some ⟨w.heap.size + 1, 0, none⟩), .int .i64 fb, .pointer (some ⟨w.heap.size, 0, none⟩), .bool true, .bool true, .slice A1 n1 c1, .string ⟨L1.toArray⟩, .slice A2 n2 c2, .string ⟨L2.toArray⟩, .bool r, .agg #[.int .i64 fb, .int .i64 typ, .int .i64 x, .int .i64 y, .int .i64 (md % 8)], .agg #[.int .i64 fb, .int .i64 ft, .int .i64 fx, .int .i64 fy, .int .i64 (fm % 8)], .bool r, .bool true, .bool true], []⟩) (fun g => ⟨#[.agg #[.int .i64 btn, .int .i64 typ, .int .i64 x, .int .i64 y, .int .i64 md], .agg #[.int .i64 fb, .int .i64 ft, .int .i64 fx, .int .i64 fy, .int .i64 fm], .int .u8 n, .pointer (some ⟨w.heap.size, 0, none⟩), .pointer (some ⟨w.heap.size + 1, 0, none⟩), undef, .bool true, .bool true, .int .i64 cv, .slice A1 n1 c1, .slice A2 n2 c2, .bool true, .agg #[.int .i64 btn, .int .i64 typ, .int .i64 x, .int .i64 y, .int .i64 md], .bool true, .bool false, .bool false, .agg #[.int .i64 fb, .int .i64 ft, .int .i64 fx, .int .i64 fy, .int .i64 fm], .bool true, .bool false, .bool false, undef, .slice (some ⟨w3.heap.size, 0, none⟩) 3 3, .int .u8 n, .int .u8 (k : Int), .pointer (some ⟨w3.heap.size, k, none⟩), .int .i64 cv, .int .i64 cv, .agg #[.int .i64 btn, .int .i64 typ, .int .i64 x, .int .i64 y, .int .i64 md], .slice A1 n1 c1, .int .i64 cv, .agg #[.int .i64 fb, .int .i64 ft, .int .i64 fx, .int .i64 fy, .int .i64 fm], .slice A2 n2 c2, .slice A1 n1 c1, .int .i64 (n1 : Int), .bool false, .bool false, .slice A2 n2 c2, .int .i64 (n2 : Int), .bool false, .bool false, undef, .pointer (some ⟨w.heap.size, 4, none⟩), .int .i64 md, .int .i64 (md % 8), .pointer (some ⟨w.heap.size, 4, none⟩), .pointer (some ⟨w.heap.size + 1, 4, none⟩), .int .i64 fm, .int .i64 (fm % 8), .pointer (some ⟨w.heap.size + 1, 4, none⟩), .pointer (some ⟨w.heap.size, 1, none⟩), .int .i64 typ, .bool true, .bool true, .pointer (some ⟨w.heap.size + 1, 1, none⟩), .int .i64 ft, .bool true, .bool true, .pointer (some ⟨w.heap.size + 1, 0, none⟩), .int .i64 fb, .pointer (some ⟨w.heap.size, 0, none⟩), .bool true, .bool true, .slice A1 n1 c1, .string ⟨L1.toArray⟩, .slice A2 n2 c2, .string ⟨L2.toArray⟩, .bool r, .agg #[.int .i64 fb, .int .i64 typ, .int .i64 x, .int .i64 y, .int .i64 (md % 8)], .agg #[.int .i64 fb, .int .i64 ft, .int .i64 fx, .int .i64 fy, .int .i64 (fm % 8)], .bool r, .bool true, .bool true], []⟩) [.bool true, .bool true, .slice A1 n1 c1, .string ⟨L1.toArray⟩, .slice A2 n2 c2, .string ⟨L2.toArray⟩, .bool r, .agg #[.int .i64 fb, .int .i64 typ, .int .i64 x, .int .i64 y, .int .i64 (md % 8)], .agg #[.int .i64 fb, .int .i64 ft, .int .i64 fx, .int .i64 fy, .int .i64 (fm % 8)], .bool r, .bool true, .bool true, .bool true] (by kernel_rfl) (by kernel_rfl) (by kernel_rfl) (fun g => by kernel_rfl) (by kernel_rfl) (Below.refl _ _).drew (by decide) (by kernel_rfl)
      (goes_cons (gkP (fun _ => .bool true))
      (goes_cons (gkP (fun _ => .bool true))
      (goes_cons (gkP (fun _ => .slice A1 n1 c1))
      (goes_cons (goesK_conv (c := c1) HN1.out (fun W hW => s1.below hW) Tryd.underlying26 Tryd.underlying5 Tryd.underlying9 hst (ahead_none (by decide)) rfl (by decide) (by decide) (by kernel_rfl) (fun g => by kernel_rfl) rfl (fun g => by kernel_rfl) rfl (fun g => by kernel_rfl))
      (goes_cons (gkP (fun _ => .slice A2 n2 c2))
      (goes_cons (goesK_conv (c := c2) HN2.out (fun W hW => s2.below hW) Tryd.underlying26 Tryd.underlying5 Tryd.underlying9 hst (ahead_none (by decide)) rfl (by decide) (by decide) (by kernel_rfl) (fun g => by kernel_rfl) rfl (fun g => by kernel_rfl) rfl (fun g => by kernel_rfl))
      (goes_cons (gkB (.bool r) (.string ⟨L1.toArray⟩) (.string ⟨L2.toArray⟩) (HSE.out _ _))
      (goes_cons (gkL hst (fun W hW => u1.below hW u1.lt) Tryd.underlying23)
      (goes_cons (gkL hst (fun W hW => u2.below hW u2.lt) Tryd.underlying23)
      (goes_cons (gkB (.bool r) (.agg #[.int .i64 fb, .int .i64 typ, .int .i64 x, .int .i64 y, .int .i64 (md % 8)]) (.agg #[.int .i64 fb, .int .i64 ft, .int .i64 fx, .int .i64 fy, .int .i64 (fm % 8)]) (HMM.out _ _))
      (goes_cons (gkB (.bool true) (.bool r) (.bool r) (fun w => by cases r <;> kernel_rfl))
      (goes_cons (gkP (fun _ => .bool true))
      (goes_cons (gkP (fun _ => .bool true)) goes_nil))))))))))))) ?_
     intro g W hW _
     have hB10 := u3.trans (hW.mono u3.size)
     clear hst
     go_wp2_with fail
     go_ret
     exact ⟨rfl, hB10⟩
    ·have HMM := Lib.hid fun X Y w => ms_eql btn typ x y (md % 8) fb ft fx fy (fm % 8) r (HLQ.out.trans (by rw [Ms.mk.injEq]; constructor <;> (intro h; omega))) X Y w
     clear HLQ
     have t3 : (typ == 3) = true := by rw [h3]; rfl
     have t4 : (ft == 3) = false := beq_false_of_ne h4
     clear h3 h4
     have hst : ∀ f ∈ ([] : List Fact), f.ok := fun _ h => by cases h
     go_upto_region 13 with (fail)
     try rw [hw6]
     try rw [hw7]
     try rw [hw8]
     refine wp_region_told (w1 := w7) (K := []) (ix := 1000) (R0 := fun _ _ _ => True) (R1 := fun _ _ _ => True) [] (⟨#[.agg #[.int .i64 btn, .int .i64 typ, .int .i64 x, .int .i64 y, .int .i64 md], .agg #[.int .i64 fb, .int .i64 ft, .int .i64 fx, .int .i64 fy, .int .i64 fm], .int .u8 n, .pointer (some ⟨w.heap.size, 0, none⟩), .pointer (some ⟨w.heap.size + 1, 0, none⟩), undef, .bool true, .bool true, .int .i64 cv, .slice A1 n1 c1, .slice A2 n2 c2, .bool true, .agg #[.int .i64 btn, .int .i64 typ, .int .i64 x, .int .i64 y, .int .i64 md], .bool true, .bool false, .bool false, .agg #[.int .i64 fb, .int .i64 ft, .int .i64 fx, .int .i64 fy, .int .i64 fm], .bool true, .bool false, .bool false, undef, .slice (some ⟨w3.heap.size, 0, none⟩) 3 3, .int .u8 n, .int .u8 (k : Int), .pointer (some ⟨w3.heap.size, k, none⟩), .int .i64 cv, .int .i64 cv, .agg #[.int .i64 btn, .int .i64 typ, .int .i64 x, .int .i64 y, .int .i64 md], .slice A1 n1 c1, .int .i64 cv, .agg #[.int .i64 fb, .int .i64 ft, .int .i64 fx, .int .i64 fy, .int .i64 fm], .slice A2 n2 c2, .slice A1 n1 c1, .int .i64 (n1 : Int), .bool false, .bool false, .slice A2 n2 c2, .int .i64 (n2 : Int), .bool false, .bool false, undef, .pointer (some ⟨w.heap.size, 4, none⟩), .int .i64 md, .int .i64 (md % 8), .pointer (some ⟨w.heap.size, 4, none⟩), .pointer (some ⟨w.heap.size + 1, 4, none⟩), .int .i64 fm, .int .i64 (fm % 8), .pointer (some ⟨w.heap.size + 1, 4, none⟩), .pointer (some ⟨w.heap.size, 1, none⟩), .int .i64 typ, .bool true, .bool true, .pointer (some ⟨w.heap.size + 1, 1, none⟩), .int .i64 ft, .bool false, .bool false, undef, undef, undef, .bool true, .bool true, .slice A1 n1 c1, .string ⟨L1.toArray⟩, .slice A2 n2 c2, .string ⟨L2.toArray⟩, .bool r, .agg #[.int .i64 btn, .int .i64 typ, .int .i64 x, .int .i64 y, .int .i64 (md % 8)], .agg #[.int .i64 fb, .int .i64 ft, .int .i64 fx, .int .i64 fy, .int .i64 (fm % 8)], .bool r, .bool true, .bool true], []⟩) (fun g => ⟨#[.agg #[.int .i64 btn, .int .i64 typ, .int .i64 x, .int .i64 y, .int .i64 md], .agg #[.int .i64 fb, .int .i64 ft, .int .i64 fx, .int .i64 fy, .int .i64 fm], .int .u8 n, .pointer (some ⟨w.heap.size, 0, none⟩), .pointer (some ⟨w.heap.size + 1, 0, none⟩), undef, .bool true, .bool true, .int .i64 cv, .slice A1 n1 c1, .slice A2 n2 c2, .bool true, .agg #[.int .i64 btn, .int .i64 typ, .int .i64 x, .int .i64 y, .int .i64 md], .bool true, .bool false, .bool false, .agg #[.int .i64 fb, .int .i64 ft, .int .i64 fx, .int .i64 fy, .int .i64 fm], .bool true, .bool false, .bool false, undef, .slice (some ⟨w3.heap.size, 0, none⟩) 3 3, .int .u8 n, .int .u8 (k : Int), .pointer (some ⟨w3.heap.size, k, none⟩), .int .i64 cv, .int .i64 cv, .agg #[.int .i64 btn, .int .i64 typ, .int .i64 x, .int .i64 y, .int .i64 md], .slice A1 n1 c1, .int .i64 cv, .agg #[.int .i64 fb, .int .i64 ft, .int .i64 fx, .int .i64 fy, .int .i64 fm], .slice A2 n2 c2, .slice A1 n1 c1, .int .i64 (n1 : Int), .bool false, .bool false, .slice A2 n2 c2, .int .i64 (n2 : Int), .bool false, .bool false, undef, .pointer (some ⟨w.heap.size, 4, none⟩), .int .i64 md, .int .i64 (md % 8), .pointer (some ⟨w.heap.size, 4, none⟩), .pointer (some ⟨w.heap.size + 1, 4, none⟩), .int .i64 fm, .int .i64 (fm % 8), .pointer (some ⟨w.heap.size + 1, 4, none⟩), .pointer (some ⟨w.heap.size, 1, none⟩), .int .i64 typ, .bool true, .bool true, .pointer (some ⟨w.heap.size + 1, 1, none⟩), .int .i64 ft, .bool false, .bool false, undef, undef, undef, .bool true, .bool true, .slice A1 n1 c1, .string ⟨L1.toArray⟩, .slice A2 n2 c2, .string ⟨L2.toArray⟩, .bool r, .agg #[.int .i64 btn, .int .i64 typ, .int .i64 x, .int .i64 y, .int .i64 (md % 8)], .agg #[.int .i64 fb, .int .i64 ft, .int .i64 fx, .int .i64 fy, .int .i64 (fm % 8)], .bool r, .bool true, .bool true], []⟩) [.bool true, .bool true, .slice A1 n1 c1, .string ⟨L1.toArray⟩, .slice A2 n2 c2, .string ⟨L2.toArray⟩, .bool r, .agg #[.int .i64 btn, .int .i64 typ, .int .i64 x, .int .i64 y, .int .i64 (md % 8)], .agg #[.int .i64 fb, .int .i64 ft, .int .i64 fx, .int .i64 fy, .int .i64 (fm % 8)], .bool r, .bool true, .bool true, .bool true] (by kernel_rfl) (by kernel_rfl) (by kernel_rfl) (fun g => by kernel_rfl) (by kernel_rfl) (Below.refl _ _).drew (by decide) (by kernel_rfl)
      (goes_cons (gkP (fun _ => .bool true))
      (goes_cons (gkP (fun _ => .bool true))
      (goes_cons (gkP (fun _ => .slice A1 n1 c1))
      (goes_cons (goesK_conv (c := c1) HN1.out (fun W hW => s1.below hW) Tryd.underlying26 Tryd.underlying5 Tryd.underlying9 hst (ahead_none (by decide)) rfl (by decide) (by decide) (by kernel_rfl) (fun g => by kernel_rfl) rfl (fun g => by kernel_rfl) rfl (fun g => by kernel_rfl))
      (goes_cons (gkP (fun _ => .slice A2 n2 c2))
      (goes_cons (goesK_conv (c := c2) HN2.out (fun W hW => s2.below hW) Tryd.underlying26 Tryd.underlying5 Tryd.underlying9 hst (ahead_none (by decide)) rfl (by decide) (by decide) (by kernel_rfl) (fun g => by kernel_rfl) rfl (fun g => by kernel_rfl) rfl (fun g => by kernel_rfl))
      (goes_cons (gkB (.bool r) (.string ⟨L1.toArray⟩) (.string ⟨L2.toArray⟩) (HSE.out _ _))
      (goes_cons (gkL hst (fun W hW => q2.below hW q2.lt) Tryd.underlying23)
      (goes_cons (gkL hst (fun W hW => q1.below hW q1.lt) Tryd.underlying23)
      (goes_cons (gkB (.bool r) (.agg #[.int .i64 btn, .int .i64 typ, .int .i64 x, .int .i64 y, .int .i64 (md % 8)]) (.agg #[.int .i64 fb, .int .i64 ft, .int .i64 fx, .int .i64 fy, .int .i64 (fm % 8)]) (HMM.out _ _))
      (goes_cons (gkB (.bool true) (.bool r) (.bool r) (fun w => by cases r <;> kernel_rfl))
      (goes_cons (gkP (fun _ => .bool true))
      (goes_cons (gkP (fun _ => .bool true)) goes_nil))))))))))))) ?_
     intro g W hW _
     have hB10 := q3.trans (hW.mono q3.size)
     clear hst
     go_wp2_with fail
     go_ret
     exact ⟨rfl, hB10⟩
   ·have HMM := Lib.hid fun X Y w => ms_eql btn typ x y (md % 8) fb ft fx fy (fm % 8) r (HLQ.out.trans (by rw [Ms.mk.injEq]; constructor <;> (intro h; omega))) X Y w
    clear HLQ
    have t3 : (typ == 3) = false := beq_false_of_ne h3
    clear h3
    have hst : ∀ f ∈ ([] : List Fact), f.ok := fun _ h => by cases h
    go_upto_region 13 with (fail)
    try rw [hw6]
    try rw [hw7]
    try rw [hw8]
    refine wp_region_told (w1 := w7) (K := []) (ix := 1000) (R0 := fun _ _ _ => True) (R1 := fun _ _ _ => True) [] (⟨#[.agg #[.int .i64 btn, .int .i64 typ, .int .i64 x, .int .i64 y, .int .i64 md], .agg #[.int .i64 fb, .int .i64 ft, .int .i64 fx, .int .i64 fy, .int .i64 fm], .int .u8 n, .pointer (some ⟨w.heap.size, 0, none⟩), .pointer (some ⟨w.heap.size + 1, 0, none⟩), undef, .bool true, .bool true, .int .i64 cv, .slice A1 n1 c1, .slice A2 n2 c2, .bool true, .agg #[.int .i64 btn, .int .i64 typ, .int .i64 x, .int .i64 y, .int .i64 md], .bool true, .bool false, .bool false, .agg #[.int .i64 fb, .int .i64 ft, .int .i64 fx, .int .i64 fy, .int .i64 fm], .bool true, .bool false, .bool false, undef, .slice (some ⟨w3.heap.size, 0, none⟩) 3 3, .int .u8 n, .int .u8 (k : Int), .pointer (some ⟨w3.heap.size, k, none⟩), .int .i64 cv, .int .i64 cv, .agg #[.int .i64 btn, .int .i64 typ, .int .i64 x, .int .i64 y, .int .i64 md], .slice A1 n1 c1, .int .i64 cv, .agg #[.int .i64 fb, .int .i64 ft, .int .i64 fx, .int .i64 fy, .int .i64 fm], .slice A2 n2 c2, .slice A1 n1 c1, .int .i64 (n1 : Int), .bool false, .bool false, .slice A2 n2 c2, .int .i64 (n2 : Int), .bool false, .bool false, undef, .pointer (some ⟨w.heap.size, 4, none⟩), .int .i64 md, .int .i64 (md % 8), .pointer (some ⟨w.heap.size, 4, none⟩), .pointer (some ⟨w.heap.size + 1, 4, none⟩), .int .i64 fm, .int .i64 (fm % 8), .pointer (some ⟨w.heap.size + 1, 4, none⟩), .pointer (some ⟨w.heap.size, 1, none⟩), .int .i64 typ, .bool false, .bool false, undef, undef, undef, .bool false, undef, undef, undef, .bool true, .bool true, .slice A1 n1 c1, .string ⟨L1.toArray⟩, .slice A2 n2 c2, .string ⟨L2.toArray⟩, .bool r, .agg #[.int .i64 btn, .int .i64 typ, .int .i64 x, .int .i64 y, .int .i64 (md % 8)], .agg #[.int .i64 fb, .int .i64 ft, .int .i64 fx, .int .i64 fy, .int .i64 (fm % 8)], .bool r, .bool true, .bool true], []⟩) (fun g => ⟨#[.agg #[.int .i64 btn, .int .i64 typ, .int .i64 x, .int .i64 y, .int .i64 md], .agg #[.int .i64 fb, .int .i64 ft, .int .i64 fx, .int .i64 fy, .int .i64 fm], .int .u8 n, .pointer (some ⟨w.heap.size, 0, none⟩), .pointer (some ⟨w.heap.size + 1, 0, none⟩), undef, .bool true, .bool true, .int .i64 cv, .slice A1 n1 c1, .slice A2 n2 c2, .bool true, .agg #[.int .i64 btn, .int .i64 typ, .int .i64 x, .int .i64 y, .int .i64 md], .bool true, .bool false, .bool false, .agg #[.int .i64 fb, .int .i64 ft, .int .i64 fx, .int .i64 fy, .int .i64 fm], .bool true, .bool false, .bool false, undef, .slice (some ⟨w3.heap.size, 0, none⟩) 3 3, .int .u8 n, .int .u8 (k : Int), .pointer (some ⟨w3.heap.size, k, none⟩), .int .i64 cv, .int .i64 cv, .agg #[.int .i64 btn, .int .i64 typ, .int .i64 x, .int .i64 y, .int .i64 md], .slice A1 n1 c1, .int .i64 cv, .agg #[.int .i64 fb, .int .i64 ft, .int .i64 fx, .int .i64 fy, .int .i64 fm], .slice A2 n2 c2, .slice A1 n1 c1, .int .i64 (n1 : Int), .bool false, .bool false, .slice A2 n2 c2, .int .i64 (n2 : Int), .bool false, .bool false, undef, .pointer (some ⟨w.heap.size, 4, none⟩), .int .i64 md, .int .i64 (md % 8), .pointer (some ⟨w.heap.size, 4, none⟩), .pointer (some ⟨w.heap.size + 1, 4, none⟩), .int .i64 fm, .int .i64 (fm % 8), .pointer (some ⟨w.heap.size + 1, 4, none⟩), .pointer (some ⟨w.heap.size, 1, none⟩), .int .i64 typ, .bool false, .bool false, undef, undef, undef, .bool false, undef, undef, undef, .bool true, .bool true, .slice A1 n1 c1, .string ⟨L1.toArray⟩, .slice A2 n2 c2, .string ⟨L2.toArray⟩, .bool r, .agg #[.int .i64 btn, .int .i64 typ, .int .i64 x, .int .i64 y, .int .i64 (md % 8)], .agg #[.int .i64 fb, .int .i64 ft, .int .i64 fx, .int .i64 fy, .int .i64 (fm % 8)], .bool r, .bool true, .bool true], []⟩) [.bool true, .bool true, .slice A1 n1 c1, .string ⟨L1.toArray⟩, .slice A2 n2 c2, .string ⟨L2.toArray⟩, .bool r, .agg #[.int .i64 btn, .int .i64 typ, .int .i64 x, .int .i64 y, .int .i64 (md % 8)], .agg #[.int .i64 fb, .int .i64 ft, .int .i64 fx, .int .i64 fy, .int .i64 (fm % 8)], .bool r, .bool true, .bool true, .bool true] (by kernel_rfl) (by kernel_rfl) (by kernel_rfl) (fun g => by kernel_rfl) (by kernel_rfl) (Below.refl _ _).drew (by decide) (by kernel_rfl)
     (goes_cons (gkP (fun _ => .bool true))
     (goes_cons (gkP (fun _ => .bool true))
     (goes_cons (gkP (fun _ => .slice A1 n1 c1))
     (goes_cons (goesK_conv (c := c1) HN1.out (fun W hW => s1.below hW) Tryd.underlying26 Tryd.underlying5 Tryd.underlying9 hst (ahead_none (by decide)) rfl (by decide) (by decide) (by kernel_rfl) (fun g => by kernel_rfl) rfl (fun g => by kernel_rfl) rfl (fun g => by kernel_rfl))
     (goes_cons (gkP (fun _ => .slice A2 n2 c2))
     (goes_cons (goesK_conv (c := c2) HN2.out (fun W hW => s2.below hW) Tryd.underlying26 Tryd.underlying5 Tryd.underlying9 hst (ahead_none (by decide)) rfl (by decide) (by decide) (by kernel_rfl) (fun g => by kernel_rfl) rfl (fun g => by kernel_rfl) rfl (fun g => by kernel_rfl))
     (goes_cons (gkB (.bool r) (.string ⟨L1.toArray⟩) (.string ⟨L2.toArray⟩) (HSE.out _ _))
     (goes_cons (gkL hst (fun W hW => q2.below hW q2.lt) Tryd.underlying23)
     (goes_cons (gkL hst (fun W hW => q1.below hW q1.lt) Tryd.underlying23)
     (goes_cons (gkB (.bool r) (.agg #[.int .i64 btn, .int .i64 typ, .int .i64 x, .int .i64 y, .int .i64 (md % 8)]) (.agg #[.int .i64 fb, .int .i64 ft, .int .i64 fx, .int .i64 fy, .int .i64 (fm % 8)]) (HMM.out _ _))
     (goes_cons (gkB (.bool true) (.bool r) (.bool r) (fun w => by cases r <;> kernel_rfl))
     (goes_cons (gkP (fun _ => .bool true))
     (goes_cons (gkP (fun _ => .bool true)) goes_nil))))))))))))) ?_
    intro g W hW _
    have hB10 := q3.trans (hW.mono q3.size)
    clear hst
    go_wp2_with fail
    go_ret
    exact ⟨rfl, hB10⟩
end Go.Proofs.YtjlhhelikiegdaaDoor
