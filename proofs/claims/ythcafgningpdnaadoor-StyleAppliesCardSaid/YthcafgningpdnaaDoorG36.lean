/-
  Stage 18, the document's style, walked: apply, colours and marks.
-/
import Derived.Test.YthcafgningpdnaaDoorG34
import Derived.Test.YthcafgningpdnaaDoorG35
namespace Go.Proofs.YthcafgningpdnaaDoor
open Go.RowKit
set_option maxRecDepth 100000 in
set_option maxHeartbeats 8000000 in
theorem rap_rest (s0 s1 s2 s3 s4 s5 s6 : Bool) (s7 s8 s9 : Int) (A : Option Addr) (p : List Int) (k c : Nat) (hk : p.length = k) (w : World) (hr : Rd w A (is_ p)) (h1 : 1 ≤ k) (ha : ∀ a r, p = a :: r → 0 < a ∧ a ≠ 4 ∧ a ≤ 9223372036854775807) :
 Calls Tryd.prog 35 #[.agg #[.bool s0, .bool s1, .bool s2, .bool s3, .bool s4, .bool s5, .bool s6, .int .i64 s7, .int .i64 s8, .int .i64 s9], .slice A k c] w fun e w' => e = .returned (syV (setY ⟨s0, s1, s2, s3, s4, s5, s6, s7, s8, s9⟩ p)) ∧ Below w.heap.size w w' := by
 obtain ⟨a, r, rfl⟩ : ∃ a r, p = a :: r := by
  cases p with
  | nil => simp at hk; omega
  | cons a r => exact ⟨a, r, rfl⟩
 obtain ⟨ha0, ha4, ha9⟩ := ha a r rfl
 clear ha
 obtain ⟨fx, hfx⟩ : ∃ f, saidY (a :: r) a 30 = f := ⟨_, rfl⟩
 obtain ⟨fy, hfy⟩ : ∃ f, saidY (a :: r) a 40 = f := ⟨_, rfl⟩
 have hset : setY ⟨s0, s1, s2, s3, s4, s5, s6, s7, s8, s9⟩ (a :: r) = flagY ⟨s0, s1, s2, s3, s4, s5, s6, s7, if -1 ≤ fx then fx else s8, if -1 ≤ fy then fy else s9⟩ a := by
  unfold setY
  simp only
  rw [if_neg (by omega), if_neg ha4, hfx, hfy]
 have HS1 := Lib.hid (fun W (hW : Below w.heap.size w W) => hfx ▸ rsaid_any A a r k c hk 30 (by decide) (by decide) ha0 ha9 W (hr.below hW))
 have HS2 := Lib.hid (fun W (hW : Below w.heap.size w W) => hfy ▸ rsaid_any A a r k c hk 40 (by decide) (by decide) ha0 ha9 W (hr.below hW))
 have HFL := Lib.hid (fun (s : Sy) W => rflag_any18 s a W)
 have HSET := Lib.hid hset
 have hz0 : ¬ a ≤ 0 := by omega
 have hz4 : ¬ (a = 4) := ha4
 clear hset hfx hfy ha0 ha4 ha9
 have k1 := (Blk.new w 23 #[.bool s0, .bool s1, .bool s2, .bool s3, .bool s4, .bool s5, .bool s6, .int .i64 s7, .int .i64 s8, .int .i64 s9]).alloc (.cells #[.bool false, .bool false, .bool false, .bool false, .bool false, .bool false, .bool false, .int .i64 0, .int .i64 0, .int .i64 0] 23)
 have k2 := Blk.new (w.alloc (.cells #[.bool s0, .bool s1, .bool s2, .bool s3, .bool s4, .bool s5, .bool s6, .int .i64 s7, .int .i64 s8, .int .i64 s9] 23)) 23 #[.bool false, .bool false, .bool false, .bool false, .bool false, .bool false, .bool false, .int .i64 0, .int .i64 0, .int .i64 0]
 have HB0 : Below w.heap.size w ((w.alloc (.cells #[.bool s0, .bool s1, .bool s2, .bool s3, .bool s4, .bool s5, .bool s6, .int .i64 s7, .int .i64 s8, .int .i64 s9] 23)).alloc (.cells #[.bool false, .bool false, .bool false, .bool false, .bool false, .bool false, .bool false, .int .i64 0, .int .i64 0, .int .i64 0] 23)) := ((Below.refl _ w).alloc (Nat.le_refl _) _).alloc (by simp) _
 simp only [World.size_alloc] at k2
 obtain ⟨bb, o, rfl, hbb, hcc⟩ := hr.int_at (by simp)
 have c0 : w.cell? ⟨bb, o, none⟩ = some (.int .i64 a) := hcc 0 (by simp)
 have hkp : (0 : Int) < (k : Int) := by omega
 have hka : 0 < k := h1
 have hkz : ¬ ((k : Int) = 0) := by omega
 have HC : Hid (∀ W, Below w.heap.size w W → W.cell? ⟨bb, o, none⟩ = some (.int .i64 a)) := Lib.hid fun W hW => (hW.cell (p := ⟨bb, o, none⟩) hbb).trans (hcc 0 (by simp))
 clear hcc hk hr h1
 go_enter Tryd.func35, Tryd.ntmps35
 go_wp2_with fail
 refine (HS1.out _ HB0).mono ?_
 rintro e w3 ⟨rfl, hb3⟩
 have hB3 := HB0.trans (hb3.mono HB0.size)
 have k31 := k1.below hb3 k1.lt
 have k32 := k2.below hb3 k2.lt
 clear hb3 HB0 k1 k2 c0
 go_wp2_with fail
 refine (HS2.out _ hB3).mono ?_
 rintro e w4 ⟨rfl, hb4⟩
 have hB4 := hB3.trans (hb4.mono hB3.size)
 have k41 := k31.below hb4 k31.lt
 have k42 := k32.below hb4 k32.lt
 clear hb4 hB3 k31 k32 HS1 HS2
 have z8 := k41.frozen 8
 have z9 := k41.frozen 9
 have c8 : w4.cell? ⟨w.heap.size, 8, none⟩ = some (.int .i64 s8) := k41.cell 8
 have c9 : w4.cell? ⟨w.heap.size, 9, none⟩ = some (.int .i64 s9) := k41.cell 9
 by_cases gx : -1 ≤ fx
 ·by_cases gy : -1 ≤ fy
  ·have HT : Hid (setY ⟨s0, s1, s2, s3, s4, s5, s6, s7, s8, s9⟩ (a :: r) = flagY ⟨s0, s1, s2, s3, s4, s5, s6, s7, fx, fy⟩ a) := Lib.hid (by rw [HSET.out, if_pos gx, if_pos gy])
   go_upto_region 15 with (fail)
   have k51 := k41.set 8 (.int .i64 fx)
   have k52 := k42.far (a := ⟨w.heap.size, 8, none⟩) (by show w.heap.size + 1 ≠ w.heap.size; omega) (.int .i64 fx)
   have hB5 := hB4.setCell (p := ⟨w.heap.size, 8, none⟩) (Nat.le_refl _) (.int .i64 fx)
   obtain ⟨w5, hw5⟩ : ∃ w5, w4.setCell ⟨w.heap.size, 8, none⟩ (.int .i64 fx) = w5 := ⟨_, rfl⟩
   rw [hw5] at k51 k52 hB5 ⊢
   clear hw5
   have k61 := k51.set 9 (.int .i64 fy)
   have k62 := k52.far (a := ⟨w.heap.size, 9, none⟩) (by show w.heap.size + 1 ≠ w.heap.size; omega) (.int .i64 fy)
   have hB6 := hB5.setCell (p := ⟨w.heap.size, 9, none⟩) (Nat.le_refl _) (.int .i64 fy)
   obtain ⟨w6, hw6⟩ : ∃ w6, w5.setCell ⟨w.heap.size, 9, none⟩ (.int .i64 fy) = w6 := ⟨_, rfl⟩
   rw [hw6] at k61 k62 hB6 ⊢
   clear hw6
   clear z8 z9 c8 c9
   have kX : Blk w6 w.heap.size 23 (syC ⟨s0, s1, s2, s3, s4, s5, s6, s7, fx, fy⟩) := k61
   have kY := k62
   obtain ⟨a0, a1, a2, a3, a4, a5, a6, a7, a8, a9⟩ := Blk.cells10y kX
   simp only at a0 a1 a2 a3 a4 a5 a6 a7 a8 a9
   have c0 := HC.out _ hB6
   have hfl := HFL.out ⟨s0, s1, s2, s3, s4, s5, s6, s7, fx, fy⟩ w6.drew
   rw [← HT.out] at hfl
   obtain ⟨s', hs'⟩ : ∃ s', setY ⟨s0, s1, s2, s3, s4, s5, s6, s7, s8, s9⟩ (a :: r) = s' := ⟨_, rfl⟩
   rw [hs'] at hfl
   unfold syV at hfl
   simp only at hfl
   have HS' := Lib.hid hs'
   clear hs'
   obtain ⟨z0, z1, z2, z3, z4, z5, z6, z7, z8, z9⟩ := s'
   simp only at hfl
   have hyz : ∀ i, w6.frozen? ⟨w.heap.size + 1, i, none⟩ = false := fun i => kY.frozen i
   go_region_with (go_at_call 49; refine hfl.mono ?_; rintro e w9 ⟨rfl, hb9⟩; have hb9 : Below w6.heap.size w6 w9 := (Below.refl _ _).drew.trans hb9; have k9 := kY.below hb9 kY.lt; have hB9 := hB6.trans (hb9.mono hB6.size); have zz0 := k9.frozen 0; have zz1 := k9.frozen 1; have zz2 := k9.frozen 2; have zz3 := k9.frozen 3; have zz4 := k9.frozen 4; have zz5 := k9.frozen 5; have zz6 := k9.frozen 6; have zz7 := k9.frozen 7; have zz8 := k9.frozen 8; have zz9 := k9.frozen 9; have y0 : w9.cell? ⟨w.heap.size + 1, 0, none⟩ = some (.bool false) := k9.cell 0; have y1 : w9.cell? ⟨w.heap.size + 1, 1, none⟩ = some (.bool false) := k9.cell 1; have y2 : w9.cell? ⟨w.heap.size + 1, 2, none⟩ = some (.bool false) := k9.cell 2; have y3 : w9.cell? ⟨w.heap.size + 1, 3, none⟩ = some (.bool false) := k9.cell 3; have y4 : w9.cell? ⟨w.heap.size + 1, 4, none⟩ = some (.bool false) := k9.cell 4; have y5 : w9.cell? ⟨w.heap.size + 1, 5, none⟩ = some (.bool false) := k9.cell 5; have y6 : w9.cell? ⟨w.heap.size + 1, 6, none⟩ = some (.bool false) := k9.cell 6; have y7 : w9.cell? ⟨w.heap.size + 1, 7, none⟩ = some (.int .i64 0) := k9.cell 7; have y8 : w9.cell? ⟨w.heap.size + 1, 8, none⟩ = some (.int .i64 0) := k9.cell 8; have y9 : w9.cell? ⟨w.heap.size + 1, 9, none⟩ = some (.int .i64 0) := k9.cell 9)
   all_goals
    have kr := k9.set10 (.bool z0) (.bool z1) (.bool z2) (.bool z3) (.bool z4) (.bool z5) (.bool z6) (.int .i64 z7) (.int .i64 z8) (.int .i64 z9)
    have hBr := below_set10 hB9 (g := w.heap.size + 1) (by omega) (.bool z0) (.bool z1) (.bool z2) (.bool z3) (.bool z4) (.bool z5) (.bool z6) (.int .i64 z7) (.int .i64 z8) (.int .i64 z9)
    clear y0 y1 y2 y3 y4 y5 y6 y7 y8 y9 zz0 zz1 zz2 zz3 zz4 zz5 zz6 zz7 zz8 zz9
    obtain ⟨y0, y1, y2, y3, y4, y5, y6, y7, y8, y9⟩ := Blk.cells10 kr
    go_wp2_with fail
    refine bodyPost_ret (v := syV ⟨z0, z1, z2, z3, z4, z5, z6, z7, z8, z9⟩) (by unfold syV; simp [results, Tryd.results35, go_sem, y0, y1, y2, y3, y4, y5, y6, y7, y8, y9]) rfl ?_
    exact ⟨by rw [HS'.out], hBr⟩
  ·have HT : Hid (setY ⟨s0, s1, s2, s3, s4, s5, s6, s7, s8, s9⟩ (a :: r) = flagY ⟨s0, s1, s2, s3, s4, s5, s6, s7, fx, s9⟩ a) := Lib.hid (by rw [HSET.out, if_pos gx, if_neg gy])
   go_upto_region 15 with (fail)
   have k51 := k41.set 8 (.int .i64 fx)
   have k52 := k42.far (a := ⟨w.heap.size, 8, none⟩) (by show w.heap.size + 1 ≠ w.heap.size; omega) (.int .i64 fx)
   have hB5 := hB4.setCell (p := ⟨w.heap.size, 8, none⟩) (Nat.le_refl _) (.int .i64 fx)
   obtain ⟨w5, hw5⟩ : ∃ w5, w4.setCell ⟨w.heap.size, 8, none⟩ (.int .i64 fx) = w5 := ⟨_, rfl⟩
   rw [hw5] at k51 k52 hB5 ⊢
   clear hw5
   clear z8 z9 c8 c9
   have kX : Blk w5 w.heap.size 23 (syC ⟨s0, s1, s2, s3, s4, s5, s6, s7, fx, s9⟩) := k51
   have kY := k52
   obtain ⟨a0, a1, a2, a3, a4, a5, a6, a7, a8, a9⟩ := Blk.cells10y kX
   simp only at a0 a1 a2 a3 a4 a5 a6 a7 a8 a9
   have c0 := HC.out _ hB5
   have hfl := HFL.out ⟨s0, s1, s2, s3, s4, s5, s6, s7, fx, s9⟩ w5.drew
   rw [← HT.out] at hfl
   obtain ⟨s', hs'⟩ : ∃ s', setY ⟨s0, s1, s2, s3, s4, s5, s6, s7, s8, s9⟩ (a :: r) = s' := ⟨_, rfl⟩
   rw [hs'] at hfl
   unfold syV at hfl
   simp only at hfl
   have HS' := Lib.hid hs'
   clear hs'
   obtain ⟨z0, z1, z2, z3, z4, z5, z6, z7, z8, z9⟩ := s'
   simp only at hfl
   have hyz : ∀ i, w5.frozen? ⟨w.heap.size + 1, i, none⟩ = false := fun i => kY.frozen i
   go_region_with (go_at_call 49; refine hfl.mono ?_; rintro e w9 ⟨rfl, hb9⟩; have hb9 : Below w5.heap.size w5 w9 := (Below.refl _ _).drew.trans hb9; have k9 := kY.below hb9 kY.lt; have hB9 := hB5.trans (hb9.mono hB5.size); have zz0 := k9.frozen 0; have zz1 := k9.frozen 1; have zz2 := k9.frozen 2; have zz3 := k9.frozen 3; have zz4 := k9.frozen 4; have zz5 := k9.frozen 5; have zz6 := k9.frozen 6; have zz7 := k9.frozen 7; have zz8 := k9.frozen 8; have zz9 := k9.frozen 9; have y0 : w9.cell? ⟨w.heap.size + 1, 0, none⟩ = some (.bool false) := k9.cell 0; have y1 : w9.cell? ⟨w.heap.size + 1, 1, none⟩ = some (.bool false) := k9.cell 1; have y2 : w9.cell? ⟨w.heap.size + 1, 2, none⟩ = some (.bool false) := k9.cell 2; have y3 : w9.cell? ⟨w.heap.size + 1, 3, none⟩ = some (.bool false) := k9.cell 3; have y4 : w9.cell? ⟨w.heap.size + 1, 4, none⟩ = some (.bool false) := k9.cell 4; have y5 : w9.cell? ⟨w.heap.size + 1, 5, none⟩ = some (.bool false) := k9.cell 5; have y6 : w9.cell? ⟨w.heap.size + 1, 6, none⟩ = some (.bool false) := k9.cell 6; have y7 : w9.cell? ⟨w.heap.size + 1, 7, none⟩ = some (.int .i64 0) := k9.cell 7; have y8 : w9.cell? ⟨w.heap.size + 1, 8, none⟩ = some (.int .i64 0) := k9.cell 8; have y9 : w9.cell? ⟨w.heap.size + 1, 9, none⟩ = some (.int .i64 0) := k9.cell 9)
   all_goals
    have kr := k9.set10 (.bool z0) (.bool z1) (.bool z2) (.bool z3) (.bool z4) (.bool z5) (.bool z6) (.int .i64 z7) (.int .i64 z8) (.int .i64 z9)
    have hBr := below_set10 hB9 (g := w.heap.size + 1) (by omega) (.bool z0) (.bool z1) (.bool z2) (.bool z3) (.bool z4) (.bool z5) (.bool z6) (.int .i64 z7) (.int .i64 z8) (.int .i64 z9)
    clear y0 y1 y2 y3 y4 y5 y6 y7 y8 y9 zz0 zz1 zz2 zz3 zz4 zz5 zz6 zz7 zz8 zz9
    obtain ⟨y0, y1, y2, y3, y4, y5, y6, y7, y8, y9⟩ := Blk.cells10 kr
    go_wp2_with fail
    refine bodyPost_ret (v := syV ⟨z0, z1, z2, z3, z4, z5, z6, z7, z8, z9⟩) (by unfold syV; simp [results, Tryd.results35, go_sem, y0, y1, y2, y3, y4, y5, y6, y7, y8, y9]) rfl ?_
    exact ⟨by rw [HS'.out], hBr⟩
 ·by_cases gy : -1 ≤ fy
  ·have HT : Hid (setY ⟨s0, s1, s2, s3, s4, s5, s6, s7, s8, s9⟩ (a :: r) = flagY ⟨s0, s1, s2, s3, s4, s5, s6, s7, s8, fy⟩ a) := Lib.hid (by rw [HSET.out, if_neg gx, if_pos gy])
   go_upto_region 15 with (fail)
   have k51 := k41.set 9 (.int .i64 fy)
   have k52 := k42.far (a := ⟨w.heap.size, 9, none⟩) (by show w.heap.size + 1 ≠ w.heap.size; omega) (.int .i64 fy)
   have hB5 := hB4.setCell (p := ⟨w.heap.size, 9, none⟩) (Nat.le_refl _) (.int .i64 fy)
   obtain ⟨w5, hw5⟩ : ∃ w5, w4.setCell ⟨w.heap.size, 9, none⟩ (.int .i64 fy) = w5 := ⟨_, rfl⟩
   rw [hw5] at k51 k52 hB5 ⊢
   clear hw5
   clear z8 z9 c8 c9
   have kX : Blk w5 w.heap.size 23 (syC ⟨s0, s1, s2, s3, s4, s5, s6, s7, s8, fy⟩) := k51
   have kY := k52
   obtain ⟨a0, a1, a2, a3, a4, a5, a6, a7, a8, a9⟩ := Blk.cells10y kX
   simp only at a0 a1 a2 a3 a4 a5 a6 a7 a8 a9
   have c0 := HC.out _ hB5
   have hfl := HFL.out ⟨s0, s1, s2, s3, s4, s5, s6, s7, s8, fy⟩ w5.drew
   rw [← HT.out] at hfl
   obtain ⟨s', hs'⟩ : ∃ s', setY ⟨s0, s1, s2, s3, s4, s5, s6, s7, s8, s9⟩ (a :: r) = s' := ⟨_, rfl⟩
   rw [hs'] at hfl
   unfold syV at hfl
   simp only at hfl
   have HS' := Lib.hid hs'
   clear hs'
   obtain ⟨z0, z1, z2, z3, z4, z5, z6, z7, z8, z9⟩ := s'
   simp only at hfl
   have hyz : ∀ i, w5.frozen? ⟨w.heap.size + 1, i, none⟩ = false := fun i => kY.frozen i
   go_region_with (go_at_call 49; refine hfl.mono ?_; rintro e w9 ⟨rfl, hb9⟩; have hb9 : Below w5.heap.size w5 w9 := (Below.refl _ _).drew.trans hb9; have k9 := kY.below hb9 kY.lt; have hB9 := hB5.trans (hb9.mono hB5.size); have zz0 := k9.frozen 0; have zz1 := k9.frozen 1; have zz2 := k9.frozen 2; have zz3 := k9.frozen 3; have zz4 := k9.frozen 4; have zz5 := k9.frozen 5; have zz6 := k9.frozen 6; have zz7 := k9.frozen 7; have zz8 := k9.frozen 8; have zz9 := k9.frozen 9; have y0 : w9.cell? ⟨w.heap.size + 1, 0, none⟩ = some (.bool false) := k9.cell 0; have y1 : w9.cell? ⟨w.heap.size + 1, 1, none⟩ = some (.bool false) := k9.cell 1; have y2 : w9.cell? ⟨w.heap.size + 1, 2, none⟩ = some (.bool false) := k9.cell 2; have y3 : w9.cell? ⟨w.heap.size + 1, 3, none⟩ = some (.bool false) := k9.cell 3; have y4 : w9.cell? ⟨w.heap.size + 1, 4, none⟩ = some (.bool false) := k9.cell 4; have y5 : w9.cell? ⟨w.heap.size + 1, 5, none⟩ = some (.bool false) := k9.cell 5; have y6 : w9.cell? ⟨w.heap.size + 1, 6, none⟩ = some (.bool false) := k9.cell 6; have y7 : w9.cell? ⟨w.heap.size + 1, 7, none⟩ = some (.int .i64 0) := k9.cell 7; have y8 : w9.cell? ⟨w.heap.size + 1, 8, none⟩ = some (.int .i64 0) := k9.cell 8; have y9 : w9.cell? ⟨w.heap.size + 1, 9, none⟩ = some (.int .i64 0) := k9.cell 9)
   all_goals
    have kr := k9.set10 (.bool z0) (.bool z1) (.bool z2) (.bool z3) (.bool z4) (.bool z5) (.bool z6) (.int .i64 z7) (.int .i64 z8) (.int .i64 z9)
    have hBr := below_set10 hB9 (g := w.heap.size + 1) (by omega) (.bool z0) (.bool z1) (.bool z2) (.bool z3) (.bool z4) (.bool z5) (.bool z6) (.int .i64 z7) (.int .i64 z8) (.int .i64 z9)
    clear y0 y1 y2 y3 y4 y5 y6 y7 y8 y9 zz0 zz1 zz2 zz3 zz4 zz5 zz6 zz7 zz8 zz9
    obtain ⟨y0, y1, y2, y3, y4, y5, y6, y7, y8, y9⟩ := Blk.cells10 kr
    go_wp2_with fail
    refine bodyPost_ret (v := syV ⟨z0, z1, z2, z3, z4, z5, z6, z7, z8, z9⟩) (by unfold syV; simp [results, Tryd.results35, go_sem, y0, y1, y2, y3, y4, y5, y6, y7, y8, y9]) rfl ?_
    exact ⟨by rw [HS'.out], hBr⟩
  ·have HT : Hid (setY ⟨s0, s1, s2, s3, s4, s5, s6, s7, s8, s9⟩ (a :: r) = flagY ⟨s0, s1, s2, s3, s4, s5, s6, s7, s8, s9⟩ a) := Lib.hid (by rw [HSET.out, if_neg gx, if_neg gy])
   go_upto_region 15 with (fail)
   clear z8 z9 c8 c9
   have kX : Blk w4 w.heap.size 23 (syC ⟨s0, s1, s2, s3, s4, s5, s6, s7, s8, s9⟩) := k41
   have kY := k42
   obtain ⟨a0, a1, a2, a3, a4, a5, a6, a7, a8, a9⟩ := Blk.cells10y kX
   simp only at a0 a1 a2 a3 a4 a5 a6 a7 a8 a9
   have c0 := HC.out _ hB4
   have hfl := HFL.out ⟨s0, s1, s2, s3, s4, s5, s6, s7, s8, s9⟩ w4.drew
   rw [← HT.out] at hfl
   obtain ⟨s', hs'⟩ : ∃ s', setY ⟨s0, s1, s2, s3, s4, s5, s6, s7, s8, s9⟩ (a :: r) = s' := ⟨_, rfl⟩
   rw [hs'] at hfl
   unfold syV at hfl
   simp only at hfl
   have HS' := Lib.hid hs'
   clear hs'
   obtain ⟨z0, z1, z2, z3, z4, z5, z6, z7, z8, z9⟩ := s'
   simp only at hfl
   have hyz : ∀ i, w4.frozen? ⟨w.heap.size + 1, i, none⟩ = false := fun i => kY.frozen i
   go_region_with (go_at_call 49; refine hfl.mono ?_; rintro e w9 ⟨rfl, hb9⟩; have hb9 : Below w4.heap.size w4 w9 := (Below.refl _ _).drew.trans hb9; have k9 := kY.below hb9 kY.lt; have hB9 := hB4.trans (hb9.mono hB4.size); have zz0 := k9.frozen 0; have zz1 := k9.frozen 1; have zz2 := k9.frozen 2; have zz3 := k9.frozen 3; have zz4 := k9.frozen 4; have zz5 := k9.frozen 5; have zz6 := k9.frozen 6; have zz7 := k9.frozen 7; have zz8 := k9.frozen 8; have zz9 := k9.frozen 9; have y0 : w9.cell? ⟨w.heap.size + 1, 0, none⟩ = some (.bool false) := k9.cell 0; have y1 : w9.cell? ⟨w.heap.size + 1, 1, none⟩ = some (.bool false) := k9.cell 1; have y2 : w9.cell? ⟨w.heap.size + 1, 2, none⟩ = some (.bool false) := k9.cell 2; have y3 : w9.cell? ⟨w.heap.size + 1, 3, none⟩ = some (.bool false) := k9.cell 3; have y4 : w9.cell? ⟨w.heap.size + 1, 4, none⟩ = some (.bool false) := k9.cell 4; have y5 : w9.cell? ⟨w.heap.size + 1, 5, none⟩ = some (.bool false) := k9.cell 5; have y6 : w9.cell? ⟨w.heap.size + 1, 6, none⟩ = some (.bool false) := k9.cell 6; have y7 : w9.cell? ⟨w.heap.size + 1, 7, none⟩ = some (.int .i64 0) := k9.cell 7; have y8 : w9.cell? ⟨w.heap.size + 1, 8, none⟩ = some (.int .i64 0) := k9.cell 8; have y9 : w9.cell? ⟨w.heap.size + 1, 9, none⟩ = some (.int .i64 0) := k9.cell 9)
   all_goals
    have kr := k9.set10 (.bool z0) (.bool z1) (.bool z2) (.bool z3) (.bool z4) (.bool z5) (.bool z6) (.int .i64 z7) (.int .i64 z8) (.int .i64 z9)
    have hBr := below_set10 hB9 (g := w.heap.size + 1) (by omega) (.bool z0) (.bool z1) (.bool z2) (.bool z3) (.bool z4) (.bool z5) (.bool z6) (.int .i64 z7) (.int .i64 z8) (.int .i64 z9)
    clear y0 y1 y2 y3 y4 y5 y6 y7 y8 y9 zz0 zz1 zz2 zz3 zz4 zz5 zz6 zz7 zz8 zz9
    obtain ⟨y0, y1, y2, y3, y4, y5, y6, y7, y8, y9⟩ := Blk.cells10 kr
    go_wp2_with fail
    refine bodyPost_ret (v := syV ⟨z0, z1, z2, z3, z4, z5, z6, z7, z8, z9⟩) (by unfold syV; simp [results, Tryd.results35, go_sem, y0, y1, y2, y3, y4, y5, y6, y7, y8, y9]) rfl ?_
    exact ⟨by rw [HS'.out], hBr⟩
end Go.Proofs.YthcafgningpdnaaDoor
