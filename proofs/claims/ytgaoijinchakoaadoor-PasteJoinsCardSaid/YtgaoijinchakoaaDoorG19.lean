/-
  Layer 2, walked: the size of what begins with a byte.
-/
import Derived.Test.YtgaoijinchakoaaDoorG09
namespace Go.Proofs.YtgaoijinchakoaaDoor
open Go.RowKit
set_option maxRecDepth 100000 in
set_option maxHeartbeats 4000000 in
theorem sizeByFirst_any (r : Int) (w : World) (hs : Siz w) : Calls Tryd.prog 43 #[.int .i64 r] w fun e w' => e = .returned (.agg (szA (ixF r 4))) ∧ Below w.heap.size w w' := by
 obtain ⟨t, fz, hh⟩ := hs
 have hlt := (Array.getElem?_eq_some_iff.1 hh).1
 have hlt0 : 0 < w.heap.size := Nat.zero_lt_of_lt hlt
 have c0 : w.cell? ⟨0, 0, none⟩ = some (.int .i64 1) := siz_cell hh 0
 have c1 : w.cell? ⟨0, 1, none⟩ = some (.int .i64 0) := siz_cell hh 1
 have c2 : w.cell? ⟨0, 2, none⟩ = some (.int .i64 0) := siz_cell hh 2
 have c3 : w.cell? ⟨0, 3, none⟩ = some (.int .i64 2) := siz_cell hh 3
 have c4 : w.cell? ⟨0, 4, none⟩ = some (.int .i64 128) := siz_cell hh 4
 have c5 : w.cell? ⟨0, 5, none⟩ = some (.int .i64 192) := siz_cell hh 5
 have c6 : w.cell? ⟨0, 6, none⟩ = some (.int .i64 3) := siz_cell hh 6
 have c7 : w.cell? ⟨0, 7, none⟩ = some (.int .i64 2048) := siz_cell hh 7
 have c8 : w.cell? ⟨0, 8, none⟩ = some (.int .i64 224) := siz_cell hh 8
 have c9 : w.cell? ⟨0, 9, none⟩ = some (.int .i64 4) := siz_cell hh 9
 have c10 : w.cell? ⟨0, 10, none⟩ = some (.int .i64 65536) := siz_cell hh 10
 have c11 : w.cell? ⟨0, 11, none⟩ = some (.int .i64 240) := siz_cell hh 11
 go_enter Tryd.func43, Tryd.ntmps43
 go_wp2
 have b0 := Blk.new w 71 #[.int .i64 0, .int .i64 0, .int .i64 0]
 have b1 := Blk.new (w.alloc (.cells #[.int .i64 0, .int .i64 0, .int .i64 0] 71)) 71 #[.int .i64 1, .int .i64 0, .int .i64 0]
 rw [World.size_alloc] at b1
 have hb0 : Below w.heap.size w ((w.alloc (.cells #[.int .i64 0, .int .i64 0, .int .i64 0] 71)).alloc (.cells #[.int .i64 1, .int .i64 0, .int .i64 0] 71)) := ((Below.refl _ w).alloc (Nat.le_refl _) _).alloc (by simp) _
 go_loopw [9] (fun i wr => ∃ k : Nat, k ≤ 4 ∧ i = .int .i64 k ∧ Blk wr w.heap.size 71 #[.int .i64 0, .int .i64 0, .int .i64 0] ∧ Blk wr (w.heap.size + 1) 71 (szA (ixF r k)) ∧ Below w.heap.size w wr) (fun i _ => 4 - (intOf i).toNat)
 case atStart => exact ⟨0, by omega, rfl, b0.alloc _, b1, hb0⟩
 case round =>
  obtain ⟨k, hk, rfl, p0, p1, hbw⟩ := hrel
  clear b0 b1 hb0 c0 c1 c2 c3 c4 c5 c6 c7 c8 c9 c10 c11
  have hz := p1.lt
  have q0 := p1.frozen 0
  have q1 := p1.frozen 1
  have q2 := p1.frozen 2
  obtain rfl | rfl | rfl | rfl | rfl : k = 0 ∨ k = 1 ∨ k = 2 ∨ k = 3 ∨ k = 4 := by omega
  ·have i0 : ∀ w : World, (Instr.index 81 (.agg #[.int .i64 1, .int .i64 0, .int .i64 0, .int .i64 2, .int .i64 128, .int .i64 192, .int .i64 3, .int .i64 2048, .int .i64 224, .int .i64 4, .int .i64 65536, .int .i64 240]) (.int .i64 0)).run Tryd.prog w = .ok (.agg #[.int .i64 1, .int .i64 0, .int .i64 0]) w := fun _ => by kernel_rfl
   by_cases hr : 0 ≤ r
   ·have f0 := Lib.hid (show szA (ixF r (0 + 1)) = szA 0 by rw [show ixF r (0 + 1) = 0 by unfold ixF; (repeat' split) <;> omega])
    obtain ⟨u0, u1, u2, hu⟩ := szA_form (ixF r 0)
    rw [hu] at p1
    have g0 := p1.cell 0
    have g1 := p1.cell 1
    have g2 := p1.cell 2
    go_wp2
    go_roundw
    case rel => exact ⟨0 + 1, by omega, by go_num, (p0.far3 (Nat.ne_of_lt (Nat.lt_succ_self _)) _ _ _).alloc _, by rw [f0.out]; exact (p1.set3 _ _ _).alloc _, (below_set3 hbw (Nat.le_succ _) _ _ _).alloc (by rw [set3_size]; exact hbw.size) _⟩
    case measure => simp [intOf]
   ·have f0 := Lib.hid (show szA (ixF r (0 + 1)) = szA (ixF r 0) by rw [show ixF r (0 + 1) = ixF r 0 by unfold ixF; (repeat' split) <;> omega])
    go_wp2
    go_roundw
    case rel => exact ⟨0 + 1, by omega, by go_num, p0.alloc _, by rw [f0.out]; exact p1.alloc _, hbw.alloc hbw.size _⟩
    case measure => simp [intOf]
  ·have i0 : ∀ w : World, (Instr.index 81 (.agg #[.int .i64 1, .int .i64 0, .int .i64 0, .int .i64 2, .int .i64 128, .int .i64 192, .int .i64 3, .int .i64 2048, .int .i64 224, .int .i64 4, .int .i64 65536, .int .i64 240]) (.int .i64 1)).run Tryd.prog w = .ok (.agg #[.int .i64 2, .int .i64 128, .int .i64 192]) w := fun _ => by kernel_rfl
   by_cases hr : 192 ≤ r
   ·have f0 := Lib.hid (show szA (ixF r (1 + 1)) = szA 1 by rw [show ixF r (1 + 1) = 1 by unfold ixF; (repeat' split) <;> omega])
    obtain ⟨u0, u1, u2, hu⟩ := szA_form (ixF r 1)
    rw [hu] at p1
    have g0 := p1.cell 0
    have g1 := p1.cell 1
    have g2 := p1.cell 2
    go_wp2
    go_roundw
    case rel => exact ⟨1 + 1, by omega, by go_num, (p0.far3 (Nat.ne_of_lt (Nat.lt_succ_self _)) _ _ _).alloc _, by rw [f0.out]; exact (p1.set3 _ _ _).alloc _, (below_set3 hbw (Nat.le_succ _) _ _ _).alloc (by rw [set3_size]; exact hbw.size) _⟩
    case measure => simp [intOf]
   ·have f0 := Lib.hid (show szA (ixF r (1 + 1)) = szA (ixF r 1) by rw [show ixF r (1 + 1) = ixF r 1 by unfold ixF; (repeat' split) <;> omega])
    go_wp2
    go_roundw
    case rel => exact ⟨1 + 1, by omega, by go_num, p0.alloc _, by rw [f0.out]; exact p1.alloc _, hbw.alloc hbw.size _⟩
    case measure => simp [intOf]
  ·have i0 : ∀ w : World, (Instr.index 81 (.agg #[.int .i64 1, .int .i64 0, .int .i64 0, .int .i64 2, .int .i64 128, .int .i64 192, .int .i64 3, .int .i64 2048, .int .i64 224, .int .i64 4, .int .i64 65536, .int .i64 240]) (.int .i64 2)).run Tryd.prog w = .ok (.agg #[.int .i64 3, .int .i64 2048, .int .i64 224]) w := fun _ => by kernel_rfl
   by_cases hr : 224 ≤ r
   ·have f0 := Lib.hid (show szA (ixF r (2 + 1)) = szA 2 by rw [show ixF r (2 + 1) = 2 by unfold ixF; (repeat' split) <;> omega])
    obtain ⟨u0, u1, u2, hu⟩ := szA_form (ixF r 2)
    rw [hu] at p1
    have g0 := p1.cell 0
    have g1 := p1.cell 1
    have g2 := p1.cell 2
    go_wp2
    go_roundw
    case rel => exact ⟨2 + 1, by omega, by go_num, (p0.far3 (Nat.ne_of_lt (Nat.lt_succ_self _)) _ _ _).alloc _, by rw [f0.out]; exact (p1.set3 _ _ _).alloc _, (below_set3 hbw (Nat.le_succ _) _ _ _).alloc (by rw [set3_size]; exact hbw.size) _⟩
    case measure => simp [intOf]
   ·have f0 := Lib.hid (show szA (ixF r (2 + 1)) = szA (ixF r 2) by rw [show ixF r (2 + 1) = ixF r 2 by unfold ixF; (repeat' split) <;> omega])
    go_wp2
    go_roundw
    case rel => exact ⟨2 + 1, by omega, by go_num, p0.alloc _, by rw [f0.out]; exact p1.alloc _, hbw.alloc hbw.size _⟩
    case measure => simp [intOf]
  ·have i0 : ∀ w : World, (Instr.index 81 (.agg #[.int .i64 1, .int .i64 0, .int .i64 0, .int .i64 2, .int .i64 128, .int .i64 192, .int .i64 3, .int .i64 2048, .int .i64 224, .int .i64 4, .int .i64 65536, .int .i64 240]) (.int .i64 3)).run Tryd.prog w = .ok (.agg #[.int .i64 4, .int .i64 65536, .int .i64 240]) w := fun _ => by kernel_rfl
   by_cases hr : 240 ≤ r
   ·have f0 := Lib.hid (show szA (ixF r (3 + 1)) = szA 3 by rw [show ixF r (3 + 1) = 3 by unfold ixF; (repeat' split) <;> omega])
    obtain ⟨u0, u1, u2, hu⟩ := szA_form (ixF r 3)
    rw [hu] at p1
    have g0 := p1.cell 0
    have g1 := p1.cell 1
    have g2 := p1.cell 2
    go_wp2
    go_roundw
    case rel => exact ⟨3 + 1, by omega, by go_num, (p0.far3 (Nat.ne_of_lt (Nat.lt_succ_self _)) _ _ _).alloc _, by rw [f0.out]; exact (p1.set3 _ _ _).alloc _, (below_set3 hbw (Nat.le_succ _) _ _ _).alloc (by rw [set3_size]; exact hbw.size) _⟩
    case measure => simp [intOf]
   ·have f0 := Lib.hid (show szA (ixF r (3 + 1)) = szA (ixF r 3) by rw [show ixF r (3 + 1) = ixF r 3 by unfold ixF; (repeat' split) <;> omega])
    go_wp2
    go_roundw
    case rel => exact ⟨3 + 1, by omega, by go_num, p0.alloc _, by rw [f0.out]; exact p1.alloc _, hbw.alloc hbw.size _⟩
    case measure => simp [intOf]
  ·obtain ⟨u0, u1, u2, hu⟩ := szA_form (ixF r 4)
   rw [hu] at p1
   have g0 := p1.cell 0
   have g1 := p1.cell 1
   have g2 := p1.cell 2
   have y0 := p0.cell 0
   have y1 := p0.cell 1
   have y2 := p0.cell 2
   have x0 := p0.frozen 0
   have x1 := p0.frozen 1
   have x2 := p0.frozen 2
   have hlt2 := p0.lt
   go_wp2
   exact bodyPost_ret (v := .agg #[.int .i64 u0, .int .i64 u1, .int .i64 u2]) (by simp [results, Tryd.results43, go_sem, y0, y1, y2]) rfl ⟨by rw [hu], below_set3 hbw (Nat.le_refl _) _ _ _⟩
end Go.Proofs.YtgaoijinchakoaaDoor
