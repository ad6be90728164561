/-
  Layer 3, walked: the document's last and bare. Layer 2, walked: the size of a code point, and of what begins with a byte. Layer 2, walked: the size of what begins with a byte. Layer 2's mathematics: how the program reckons the code point with which bytes begin. Numbers in figures, walked: the program's Text and Take. (For layers that don't load layer 1's own texts.)
  Cut out of FigT. Layer 10, the landed mods: Param and Of.
-/
import Derived.Test.YtmagokkegadmiaaGreatDoorG01
import Derived.Test.YtmagokkegadmiaaGreatDoorG02
import Derived.Test.YtmagokkegadmiaaGreatDoorG03
import Derived.Test.YtmagokkegadmiaaGreatDoorG06
import Derived.Test.YtmagokkegadmiaaGreatDoorG07
import Derived.Test.YtmagokkegadmiaaGreatDoorG09
import Derived.Test.YtmagokkegadmiaaGreatDoorG10
import Derived.Laws.Rows
import Derived.Test.YtmagokkegadmiaaGreatDoorShelf
import Derived.Deep.QuietTactic
import Derived.BigQuiet
import Derived.Lib.AppendIntMem
namespace Go.Proofs.YtmagokkegadmiaaGreatDoor
open Go.RowKit

set_option maxRecDepth 100000 in
set_option maxHeartbeats 4000000 in
theorem last_any (s : Sq) (A : Option Addr) (c : Nat) (q : Bool) (w : World) (hq : lastOk s = q) :
    Calls Tryz.prog 76 #[sqV s A c] w fun e w' => e = .returned (.bool q) ∧ Below w.heap.size w w' := by
  obtain ⟨q1, q5, q4, q0⟩ := last_q hq
  clear hq
  obtain ⟨k, pv, ps, it, f, d⟩ := s
  dsimp only at q1 q5 q4 q0
  have hf := f.toNat_lt
  obtain ⟨n, hn⟩ : ∃ n, f.toNat = n := ⟨_, rfl⟩
  rw [hn] at q1 q5 q4 hf
  unfold sqV
  dsimp only
  rw [hn]
  clear hn
  by_cases k1 : k = 1 ∨ k = 2 ∨ k = 3
  · have E := Lib.hid (q1 k1)
    clear q1 q5 q4 q0
    rcases k1 with rfl | rfl | rfl
    all_goals
      go_enter Tryz.func76, Tryz.ntmps76
      go_wp2
      all_goals
        go_ret
        refine ⟨ret_b ?_, (Below.refl _ _).alloc (Nat.le_refl _) _⟩
        rw [E.out, Bool.eq_iff_iff]
        simp only [Bool.and_eq_true, decide_eq_true_eq, Bool.false_eq_true, false_iff]
        omega
  · by_cases k5 : k = 5
    · obtain ⟨e1, e2⟩ := q5 k5
      subst k5
      clear q1 q4 q0 k1 q5
      by_cases hr : n < 48 ∨ 126 < n
      · have E := Lib.hid (e1 hr)
        clear e1 e2
        rcases hr with hr | hr
        all_goals
          go_enter Tryz.func76, Tryz.ntmps76
          go_wp2
          go_ret
          exact ⟨ret_b E.out.symm, (Below.refl _ _).alloc (Nat.le_refl _) _⟩
      · have n0 : 48 ≤ n := by omega
        have n1 : n ≤ 126 := by omega
        obtain ⟨e3, e4⟩ := e2 n0 n1
        clear e1 e2 hr
        cases it with
        | cons x it =>
          have E := Lib.hid (e3 (by simp))
          clear e3 e4
          go_enter Tryz.func76, Tryz.ntmps76
          go_wp2
          go_ret
          exact ⟨ret_b E.out.symm, (Below.refl _ _).alloc (Nat.le_refl _) _⟩
        | nil =>
          have E := Lib.hid (e4 rfl)
          clear e3 e4
          go_enter Tryz.func76, Tryz.ntmps76
          go_wp2
          all_goals
            go_ret
            refine ⟨ret_b ?_, (Below.refl _ _).alloc (Nat.le_refl _) _⟩
            rw [E.out, Bool.eq_iff_iff]
            simp
            omega
    · by_cases k4 : k = 4
      · have E := Lib.hid (q4 k4)
        subst k4
        clear q1 q4 q0 k1 q5 k5
        go_enter Tryz.func76, Tryz.ntmps76
        go_wp2
        all_goals
          go_ret
          refine ⟨ret_b ?_, (Below.refl _ _).alloc (Nat.le_refl _) _⟩
          rw [E.out, Bool.eq_iff_iff]
          simp
      · have E := Lib.hid (q0 (by omega))
        have t1 : (k == 1) = false := beq_false_of_ne (by omega)
        have t2 : (k == 2) = false := beq_false_of_ne (by omega)
        have t3 : (k == 3) = false := beq_false_of_ne (by omega)
        have t4 : (k == 4) = false := beq_false_of_ne k4
        have t5 : (k == 5) = false := beq_false_of_ne k5
        clear q1 q4 q0 k1 q5 k5 k4
        go_enter Tryz.func76, Tryz.ntmps76
        go_wp2
        go_ret
        exact ⟨ret_b E.out.symm, (Below.refl _ _).alloc (Nat.le_refl _) _⟩
end Go.Proofs.YtmagokkegadmiaaGreatDoor
namespace Go.Proofs.YtmagokkegadmiaaGreatDoor
open Go.RowKit

theorem siz_cell {w : World} {t : TypeId} {fz : Nat × Nat} (h : w.heap[1]? = some (.cells sizC t fz)) (i : Nat) : w.cell? ⟨1, i, none⟩ = sizC[i]? := cell_of_row w _ i sizC t fz h
theorem szA_form (j : Nat) : ∃ a b c : Int, szA j = #[.int .i64 a, .int .i64 b, .int .i64 c] := by
  unfold szA
  split <;> exact ⟨_, _, _, rfl⟩

set_option maxRecDepth 100000 in
set_option maxHeartbeats 4000000 in
theorem sizeOf_any (r : Int) (w : World) (hs : Siz w) : Calls Tryz.prog 104 #[.int .i64 r] w fun e w' => e = .returned (.agg (szA (ixP r 4))) ∧ Below w.heap.size w w' := by
  obtain ⟨t, fz, hh⟩ := hs
  have hlt := (Array.getElem?_eq_some_iff.1 hh).1
  have hlt0 : 0 < w.heap.size := Nat.zero_lt_of_lt hlt
  have c0 : w.cell? ⟨1, 0, none⟩ = some (.int .i64 1) := siz_cell hh 0
  have c1 : w.cell? ⟨1, 1, none⟩ = some (.int .i64 0) := siz_cell hh 1
  have c2 : w.cell? ⟨1, 2, none⟩ = some (.int .i64 0) := siz_cell hh 2
  have c3 : w.cell? ⟨1, 3, none⟩ = some (.int .i64 2) := siz_cell hh 3
  have c4 : w.cell? ⟨1, 4, none⟩ = some (.int .i64 128) := siz_cell hh 4
  have c5 : w.cell? ⟨1, 5, none⟩ = some (.int .i64 192) := siz_cell hh 5
  have c6 : w.cell? ⟨1, 6, none⟩ = some (.int .i64 3) := siz_cell hh 6
  have c7 : w.cell? ⟨1, 7, none⟩ = some (.int .i64 2048) := siz_cell hh 7
  have c8 : w.cell? ⟨1, 8, none⟩ = some (.int .i64 224) := siz_cell hh 8
  have c9 : w.cell? ⟨1, 9, none⟩ = some (.int .i64 4) := siz_cell hh 9
  have c10 : w.cell? ⟨1, 10, none⟩ = some (.int .i64 65536) := siz_cell hh 10
  have c11 : w.cell? ⟨1, 11, none⟩ = some (.int .i64 240) := siz_cell hh 11
  go_enter Tryz.func104, Tryz.ntmps104
  go_wp2
  have b0 := Blk.new w 132 #[.int .i64 0, .int .i64 0, .int .i64 0]
  have b1 := Blk.new (w.alloc (.cells #[.int .i64 0, .int .i64 0, .int .i64 0] 132)) 132 #[.int .i64 1, .int .i64 0, .int .i64 0]
  rw [World.size_alloc] at b1
  have hb0 : Below w.heap.size w ((w.alloc (.cells #[.int .i64 0, .int .i64 0, .int .i64 0] 132)).alloc (.cells #[.int .i64 1, .int .i64 0, .int .i64 0] 132)) := ((Below.refl _ w).alloc (Nat.le_refl _) _).alloc (by simp) _
  go_loopw [9] (fun i wr => ∃ k : Nat, k ≤ 4 ∧ i = .int .i64 k ∧ Blk wr w.heap.size 132 #[.int .i64 0, .int .i64 0, .int .i64 0] ∧ Blk wr (w.heap.size + 1) 132 (szA (ixP r k)) ∧ Below w.heap.size w wr) (fun i _ => 4 - (intOf i).toNat)
  case atStart => exact ⟨0, by omega, rfl, b0.alloc _, b1, hb0⟩
  case round =>
    obtain ⟨k, hk, rfl, p0, p1, hbw⟩ := hrel
    clear b0 b1 hb0 c0 c1 c2 c3 c4 c5 c6 c7 c8 c9 c10 c11
    have hz := p1.lt
    have q0 := p1.frozen 0
    have q1 := p1.frozen 1
    have q2 := p1.frozen 2
    obtain rfl | rfl | rfl | rfl | rfl : k = 0 ∨ k = 1 ∨ k = 2 ∨ k = 3 ∨ k = 4 := by omega
    · have i0 : ∀ w : World, (Instr.index 142 (.agg #[.int .i64 1, .int .i64 0, .int .i64 0, .int .i64 2, .int .i64 128, .int .i64 192, .int .i64 3, .int .i64 2048, .int .i64 224, .int .i64 4, .int .i64 65536, .int .i64 240]) (.int .i64 0)).run Tryz.prog w = .ok (.agg #[.int .i64 1, .int .i64 0, .int .i64 0]) w := fun _ => by kernel_rfl
      by_cases hr : 0 ≤ r
      · have f0 := Lib.hid (show szA (ixP r (0 + 1)) = szA 0 by rw [show ixP r (0 + 1) = 0 by unfold ixP; (repeat' split) <;> omega])
        obtain ⟨u0, u1, u2, hu⟩ := szA_form (ixP r 0)
        rw [hu] at p1
        have g0 := p1.cell 0
        have g1 := p1.cell 1
        have g2 := p1.cell 2
        go_wp2
        go_roundw
        case rel => exact ⟨0 + 1, by omega, by go_num, (p0.far3 (Nat.ne_of_lt (Nat.lt_succ_self _)) _ _ _).alloc _, by rw [f0.out]; exact (p1.set3 _ _ _).alloc _, (below_set3 hbw (Nat.le_succ _) _ _ _).alloc (by rw [set3_size]; exact hbw.size) _⟩
        case measure => simp [intOf]
      · have f0 := Lib.hid (show szA (ixP r (0 + 1)) = szA (ixP r 0) by rw [show ixP r (0 + 1) = ixP r 0 by unfold ixP; (repeat' split) <;> omega])
        go_wp2
        go_roundw
        case rel => exact ⟨0 + 1, by omega, by go_num, p0.alloc _, by rw [f0.out]; exact p1.alloc _, hbw.alloc hbw.size _⟩
        case measure => simp [intOf]
    · have i0 : ∀ w : World, (Instr.index 142 (.agg #[.int .i64 1, .int .i64 0, .int .i64 0, .int .i64 2, .int .i64 128, .int .i64 192, .int .i64 3, .int .i64 2048, .int .i64 224, .int .i64 4, .int .i64 65536, .int .i64 240]) (.int .i64 1)).run Tryz.prog w = .ok (.agg #[.int .i64 2, .int .i64 128, .int .i64 192]) w := fun _ => by kernel_rfl
      by_cases hr : 128 ≤ r
      · have f0 := Lib.hid (show szA (ixP r (1 + 1)) = szA 1 by rw [show ixP r (1 + 1) = 1 by unfold ixP; (repeat' split) <;> omega])
        obtain ⟨u0, u1, u2, hu⟩ := szA_form (ixP r 1)
        rw [hu] at p1
        have g0 := p1.cell 0
        have g1 := p1.cell 1
        have g2 := p1.cell 2
        go_wp2
        go_roundw
        case rel => exact ⟨1 + 1, by omega, by go_num, (p0.far3 (Nat.ne_of_lt (Nat.lt_succ_self _)) _ _ _).alloc _, by rw [f0.out]; exact (p1.set3 _ _ _).alloc _, (below_set3 hbw (Nat.le_succ _) _ _ _).alloc (by rw [set3_size]; exact hbw.size) _⟩
        case measure => simp [intOf]
      · have f0 := Lib.hid (show szA (ixP r (1 + 1)) = szA (ixP r 1) by rw [show ixP r (1 + 1) = ixP r 1 by unfold ixP; (repeat' split) <;> omega])
        go_wp2
        go_roundw
        case rel => exact ⟨1 + 1, by omega, by go_num, p0.alloc _, by rw [f0.out]; exact p1.alloc _, hbw.alloc hbw.size _⟩
        case measure => simp [intOf]
    · have i0 : ∀ w : World, (Instr.index 142 (.agg #[.int .i64 1, .int .i64 0, .int .i64 0, .int .i64 2, .int .i64 128, .int .i64 192, .int .i64 3, .int .i64 2048, .int .i64 224, .int .i64 4, .int .i64 65536, .int .i64 240]) (.int .i64 2)).run Tryz.prog w = .ok (.agg #[.int .i64 3, .int .i64 2048, .int .i64 224]) w := fun _ => by kernel_rfl
      by_cases hr : 2048 ≤ r
      · have f0 := Lib.hid (show szA (ixP r (2 + 1)) = szA 2 by rw [show ixP r (2 + 1) = 2 by unfold ixP; (repeat' split) <;> omega])
        obtain ⟨u0, u1, u2, hu⟩ := szA_form (ixP r 2)
        rw [hu] at p1
        have g0 := p1.cell 0
        have g1 := p1.cell 1
        have g2 := p1.cell 2
        go_wp2
        go_roundw
        case rel => exact ⟨2 + 1, by omega, by go_num, (p0.far3 (Nat.ne_of_lt (Nat.lt_succ_self _)) _ _ _).alloc _, by rw [f0.out]; exact (p1.set3 _ _ _).alloc _, (below_set3 hbw (Nat.le_succ _) _ _ _).alloc (by rw [set3_size]; exact hbw.size) _⟩
        case measure => simp [intOf]
      · have f0 := Lib.hid (show szA (ixP r (2 + 1)) = szA (ixP r 2) by rw [show ixP r (2 + 1) = ixP r 2 by unfold ixP; (repeat' split) <;> omega])
        go_wp2
        go_roundw
        case rel => exact ⟨2 + 1, by omega, by go_num, p0.alloc _, by rw [f0.out]; exact p1.alloc _, hbw.alloc hbw.size _⟩
        case measure => simp [intOf]
    · have i0 : ∀ w : World, (Instr.index 142 (.agg #[.int .i64 1, .int .i64 0, .int .i64 0, .int .i64 2, .int .i64 128, .int .i64 192, .int .i64 3, .int .i64 2048, .int .i64 224, .int .i64 4, .int .i64 65536, .int .i64 240]) (.int .i64 3)).run Tryz.prog w = .ok (.agg #[.int .i64 4, .int .i64 65536, .int .i64 240]) w := fun _ => by kernel_rfl
      by_cases hr : 65536 ≤ r
      · have f0 := Lib.hid (show szA (ixP r (3 + 1)) = szA 3 by rw [show ixP r (3 + 1) = 3 by unfold ixP; (repeat' split) <;> omega])
        obtain ⟨u0, u1, u2, hu⟩ := szA_form (ixP r 3)
        rw [hu] at p1
        have g0 := p1.cell 0
        have g1 := p1.cell 1
        have g2 := p1.cell 2
        go_wp2
        go_roundw
        case rel => exact ⟨3 + 1, by omega, by go_num, (p0.far3 (Nat.ne_of_lt (Nat.lt_succ_self _)) _ _ _).alloc _, by rw [f0.out]; exact (p1.set3 _ _ _).alloc _, (below_set3 hbw (Nat.le_succ _) _ _ _).alloc (by rw [set3_size]; exact hbw.size) _⟩
        case measure => simp [intOf]
      · have f0 := Lib.hid (show szA (ixP r (3 + 1)) = szA (ixP r 3) by rw [show ixP r (3 + 1) = ixP r 3 by unfold ixP; (repeat' split) <;> omega])
        go_wp2
        go_roundw
        case rel => exact ⟨3 + 1, by omega, by go_num, p0.alloc _, by rw [f0.out]; exact p1.alloc _, hbw.alloc hbw.size _⟩
        case measure => simp [intOf]
    · obtain ⟨u0, u1, u2, hu⟩ := szA_form (ixP r 4)
      rw [hu] at p1
      have g0 := p1.cell 0
      have g1 := p1.cell 1
      have g2 := p1.cell 2
      have y0 := p0.cell 0
      have y1 := p0.cell 1
      have y2 := p0.cell 2
      have x0 := p0.frozen 0
      have x1 := p0.frozen 1
      have x2 := p0.frozen 2
      have hlt2 := p0.lt
      go_wp2
      exact bodyPost_ret (v := .agg #[.int .i64 u0, .int .i64 u1, .int .i64 u2]) (by simp [results, Tryz.results104, go_sem, y0, y1, y2]) rfl ⟨by rw [hu], below_set3 hbw (Nat.le_refl _) _ _ _⟩
end Go.Proofs.YtmagokkegadmiaaGreatDoor
namespace Go.Proofs.YtmagokkegadmiaaGreatDoor
open Go.RowKit

set_option maxRecDepth 100000 in
set_option maxHeartbeats 4000000 in
theorem sizeByFirst_any (r : Int) (w : World) (hs : Siz w) : Calls Tryz.prog 120 #[.int .i64 r] w fun e w' => e = .returned (.agg (szA (ixF r 4))) ∧ Below w.heap.size w w' := by
  obtain ⟨t, fz, hh⟩ := hs
  have hlt := (Array.getElem?_eq_some_iff.1 hh).1
  have hlt0 : 0 < w.heap.size := Nat.zero_lt_of_lt hlt
  have c0 : w.cell? ⟨1, 0, none⟩ = some (.int .i64 1) := siz_cell hh 0
  have c1 : w.cell? ⟨1, 1, none⟩ = some (.int .i64 0) := siz_cell hh 1
  have c2 : w.cell? ⟨1, 2, none⟩ = some (.int .i64 0) := siz_cell hh 2
  have c3 : w.cell? ⟨1, 3, none⟩ = some (.int .i64 2) := siz_cell hh 3
  have c4 : w.cell? ⟨1, 4, none⟩ = some (.int .i64 128) := siz_cell hh 4
  have c5 : w.cell? ⟨1, 5, none⟩ = some (.int .i64 192) := siz_cell hh 5
  have c6 : w.cell? ⟨1, 6, none⟩ = some (.int .i64 3) := siz_cell hh 6
  have c7 : w.cell? ⟨1, 7, none⟩ = some (.int .i64 2048) := siz_cell hh 7
  have c8 : w.cell? ⟨1, 8, none⟩ = some (.int .i64 224) := siz_cell hh 8
  have c9 : w.cell? ⟨1, 9, none⟩ = some (.int .i64 4) := siz_cell hh 9
  have c10 : w.cell? ⟨1, 10, none⟩ = some (.int .i64 65536) := siz_cell hh 10
  have c11 : w.cell? ⟨1, 11, none⟩ = some (.int .i64 240) := siz_cell hh 11
  go_enter Tryz.func120, Tryz.ntmps120
  go_wp2
  have b0 := Blk.new w 132 #[.int .i64 0, .int .i64 0, .int .i64 0]
  have b1 := Blk.new (w.alloc (.cells #[.int .i64 0, .int .i64 0, .int .i64 0] 132)) 132 #[.int .i64 1, .int .i64 0, .int .i64 0]
  rw [World.size_alloc] at b1
  have hb0 : Below w.heap.size w ((w.alloc (.cells #[.int .i64 0, .int .i64 0, .int .i64 0] 132)).alloc (.cells #[.int .i64 1, .int .i64 0, .int .i64 0] 132)) := ((Below.refl _ w).alloc (Nat.le_refl _) _).alloc (by simp) _
  go_loopw [9] (fun i wr => ∃ k : Nat, k ≤ 4 ∧ i = .int .i64 k ∧ Blk wr w.heap.size 132 #[.int .i64 0, .int .i64 0, .int .i64 0] ∧ Blk wr (w.heap.size + 1) 132 (szA (ixF r k)) ∧ Below w.heap.size w wr) (fun i _ => 4 - (intOf i).toNat)
  case atStart => exact ⟨0, by omega, rfl, b0.alloc _, b1, hb0⟩
  case round =>
    obtain ⟨k, hk, rfl, p0, p1, hbw⟩ := hrel
    clear b0 b1 hb0 c0 c1 c2 c3 c4 c5 c6 c7 c8 c9 c10 c11
    have hz := p1.lt
    have q0 := p1.frozen 0
    have q1 := p1.frozen 1
    have q2 := p1.frozen 2
    obtain rfl | rfl | rfl | rfl | rfl : k = 0 ∨ k = 1 ∨ k = 2 ∨ k = 3 ∨ k = 4 := by omega
    · have i0 : ∀ w : World, (Instr.index 142 (.agg #[.int .i64 1, .int .i64 0, .int .i64 0, .int .i64 2, .int .i64 128, .int .i64 192, .int .i64 3, .int .i64 2048, .int .i64 224, .int .i64 4, .int .i64 65536, .int .i64 240]) (.int .i64 0)).run Tryz.prog w = .ok (.agg #[.int .i64 1, .int .i64 0, .int .i64 0]) w := fun _ => by kernel_rfl
      by_cases hr : 0 ≤ r
      · have f0 := Lib.hid (show szA (ixF r (0 + 1)) = szA 0 by rw [show ixF r (0 + 1) = 0 by unfold ixF; (repeat' split) <;> omega])
        obtain ⟨u0, u1, u2, hu⟩ := szA_form (ixF r 0)
        rw [hu] at p1
        have g0 := p1.cell 0
        have g1 := p1.cell 1
        have g2 := p1.cell 2
        go_wp2
        go_roundw
        case rel => exact ⟨0 + 1, by omega, by go_num, (p0.far3 (Nat.ne_of_lt (Nat.lt_succ_self _)) _ _ _).alloc _, by rw [f0.out]; exact (p1.set3 _ _ _).alloc _, (below_set3 hbw (Nat.le_succ _) _ _ _).alloc (by rw [set3_size]; exact hbw.size) _⟩
        case measure => simp [intOf]
      · have f0 := Lib.hid (show szA (ixF r (0 + 1)) = szA (ixF r 0) by rw [show ixF r (0 + 1) = ixF r 0 by unfold ixF; (repeat' split) <;> omega])
        go_wp2
        go_roundw
        case rel => exact ⟨0 + 1, by omega, by go_num, p0.alloc _, by rw [f0.out]; exact p1.alloc _, hbw.alloc hbw.size _⟩
        case measure => simp [intOf]
    · have i0 : ∀ w : World, (Instr.index 142 (.agg #[.int .i64 1, .int .i64 0, .int .i64 0, .int .i64 2, .int .i64 128, .int .i64 192, .int .i64 3, .int .i64 2048, .int .i64 224, .int .i64 4, .int .i64 65536, .int .i64 240]) (.int .i64 1)).run Tryz.prog w = .ok (.agg #[.int .i64 2, .int .i64 128, .int .i64 192]) w := fun _ => by kernel_rfl
      by_cases hr : 192 ≤ r
      · have f0 := Lib.hid (show szA (ixF r (1 + 1)) = szA 1 by rw [show ixF r (1 + 1) = 1 by unfold ixF; (repeat' split) <;> omega])
        obtain ⟨u0, u1, u2, hu⟩ := szA_form (ixF r 1)
        rw [hu] at p1
        have g0 := p1.cell 0
        have g1 := p1.cell 1
        have g2 := p1.cell 2
        go_wp2
        go_roundw
        case rel => exact ⟨1 + 1, by omega, by go_num, (p0.far3 (Nat.ne_of_lt (Nat.lt_succ_self _)) _ _ _).alloc _, by rw [f0.out]; exact (p1.set3 _ _ _).alloc _, (below_set3 hbw (Nat.le_succ _) _ _ _).alloc (by rw [set3_size]; exact hbw.size) _⟩
        case measure => simp [intOf]
      · have f0 := Lib.hid (show szA (ixF r (1 + 1)) = szA (ixF r 1) by rw [show ixF r (1 + 1) = ixF r 1 by unfold ixF; (repeat' split) <;> omega])
        go_wp2
        go_roundw
        case rel => exact ⟨1 + 1, by omega, by go_num, p0.alloc _, by rw [f0.out]; exact p1.alloc _, hbw.alloc hbw.size _⟩
        case measure => simp [intOf]
    · have i0 : ∀ w : World, (Instr.index 142 (.agg #[.int .i64 1, .int .i64 0, .int .i64 0, .int .i64 2, .int .i64 128, .int .i64 192, .int .i64 3, .int .i64 2048, .int .i64 224, .int .i64 4, .int .i64 65536, .int .i64 240]) (.int .i64 2)).run Tryz.prog w = .ok (.agg #[.int .i64 3, .int .i64 2048, .int .i64 224]) w := fun _ => by kernel_rfl
      by_cases hr : 224 ≤ r
      · have f0 := Lib.hid (show szA (ixF r (2 + 1)) = szA 2 by rw [show ixF r (2 + 1) = 2 by unfold ixF; (repeat' split) <;> omega])
        obtain ⟨u0, u1, u2, hu⟩ := szA_form (ixF r 2)
        rw [hu] at p1
        have g0 := p1.cell 0
        have g1 := p1.cell 1
        have g2 := p1.cell 2
        go_wp2
        go_roundw
        case rel => exact ⟨2 + 1, by omega, by go_num, (p0.far3 (Nat.ne_of_lt (Nat.lt_succ_self _)) _ _ _).alloc _, by rw [f0.out]; exact (p1.set3 _ _ _).alloc _, (below_set3 hbw (Nat.le_succ _) _ _ _).alloc (by rw [set3_size]; exact hbw.size) _⟩
        case measure => simp [intOf]
      · have f0 := Lib.hid (show szA (ixF r (2 + 1)) = szA (ixF r 2) by rw [show ixF r (2 + 1) = ixF r 2 by unfold ixF; (repeat' split) <;> omega])
        go_wp2
        go_roundw
        case rel => exact ⟨2 + 1, by omega, by go_num, p0.alloc _, by rw [f0.out]; exact p1.alloc _, hbw.alloc hbw.size _⟩
        case measure => simp [intOf]
    · have i0 : ∀ w : World, (Instr.index 142 (.agg #[.int .i64 1, .int .i64 0, .int .i64 0, .int .i64 2, .int .i64 128, .int .i64 192, .int .i64 3, .int .i64 2048, .int .i64 224, .int .i64 4, .int .i64 65536, .int .i64 240]) (.int .i64 3)).run Tryz.prog w = .ok (.agg #[.int .i64 4, .int .i64 65536, .int .i64 240]) w := fun _ => by kernel_rfl
      by_cases hr : 240 ≤ r
      · have f0 := Lib.hid (show szA (ixF r (3 + 1)) = szA 3 by rw [show ixF r (3 + 1) = 3 by unfold ixF; (repeat' split) <;> omega])
        obtain ⟨u0, u1, u2, hu⟩ := szA_form (ixF r 3)
        rw [hu] at p1
        have g0 := p1.cell 0
        have g1 := p1.cell 1
        have g2 := p1.cell 2
        go_wp2
        go_roundw
        case rel => exact ⟨3 + 1, by omega, by go_num, (p0.far3 (Nat.ne_of_lt (Nat.lt_succ_self _)) _ _ _).alloc _, by rw [f0.out]; exact (p1.set3 _ _ _).alloc _, (below_set3 hbw (Nat.le_succ _) _ _ _).alloc (by rw [set3_size]; exact hbw.size) _⟩
        case measure => simp [intOf]
      · have f0 := Lib.hid (show szA (ixF r (3 + 1)) = szA (ixF r 3) by rw [show ixF r (3 + 1) = ixF r 3 by unfold ixF; (repeat' split) <;> omega])
        go_wp2
        go_roundw
        case rel => exact ⟨3 + 1, by omega, by go_num, p0.alloc _, by rw [f0.out]; exact p1.alloc _, hbw.alloc hbw.size _⟩
        case measure => simp [intOf]
    · obtain ⟨u0, u1, u2, hu⟩ := szA_form (ixF r 4)
      rw [hu] at p1
      have g0 := p1.cell 0
      have g1 := p1.cell 1
      have g2 := p1.cell 2
      have y0 := p0.cell 0
      have y1 := p0.cell 1
      have y2 := p0.cell 2
      have x0 := p0.frozen 0
      have x1 := p0.frozen 1
      have x2 := p0.frozen 2
      have hlt2 := p0.lt
      go_wp2
      exact bodyPost_ret (v := .agg #[.int .i64 u0, .int .i64 u1, .int .i64 u2]) (by simp [results, Tryz.results120, go_sem, y0, y1, y2]) rfl ⟨by rw [hu], below_set3 hbw (Nat.le_refl _) _ _ _⟩
end Go.Proofs.YtmagokkegadmiaaGreatDoor
namespace Go.Proofs.YtmagokkegadmiaaGreatDoor

/-- What the program reckons is what is told. -/
structure Fst (a : UInt8) (j : Nat) (lead : Int) : Prop where
  short : ∀ l : List UInt8, l.length < j → takeL (a :: l) = (0, 0)
  none_ : ∀ l : List UInt8, j ≤ l.length → accL ((a.toNat : Int) - lead) (l.take j) = none → takeL (a :: l) = (0, 0)
  no : ∀ (l : List UInt8) (x : Int), j ≤ l.length → accL ((a.toNat : Int) - lead) (l.take j) = some x → ¬ (isPt x = true ∧ ixP x 4 = j) → takeL (a :: l) = (0, 0)
  yes : ∀ (l : List UInt8) (x : Int), j ≤ l.length → accL ((a.toNat : Int) - lead) (l.take j) = some x → isPt x = true → ixP x 4 = j → takeL (a :: l) = (x, j + 1)

theorem ix0 (x : Int) : ixP x 4 = 0 ↔ x < 128 := by unfold ixP; (repeat' split) <;> omega
theorem ix1 (x : Int) : ixP x 4 = 1 ↔ 128 ≤ x ∧ x < 2048 := by unfold ixP; (repeat' split) <;> omega
theorem ix2 (x : Int) : ixP x 4 = 2 ↔ 2048 ≤ x ∧ x < 65536 := by unfold ixP; (repeat' split) <;> omega
theorem ix3 (x : Int) : ixP x 4 = 3 ↔ 65536 ≤ x := by unfold ixP; (repeat' split) <;> omega

theorem fst_split (a : UInt8) : ∃ (j : Nat) (least lead : Int), j ≤ 3 ∧ ixF a.toNat 4 = j ∧ szA (ixF a.toNat 4) = #[.int .i64 ((j : Int) + 1), .int .i64 least, .int .i64 lead] ∧ 0 ≤ lead ∧ lead ≤ a.toNat ∧ Fst a j lead := by
  have ha := a.toNat_lt
  by_cases a1 : a.toNat < 192
  · have e : ixF a.toNat 4 = 0 := by unfold ixF; (repeat' split) <;> omega
    refine ⟨0, 0, 0, by omega, e, by rw [e]; rfl, by omega, by omega, ⟨fun l h => absurd h (by omega), fun l _ h => ?_, fun l x _ h hn => ?_, fun l x _ h hp hi => ?_⟩⟩
    · cases h
    · obtain rfl : (a.toNat : Int) = x := by have := Option.some.inj h; omega
      simp only [takeL]
      rw [if_pos a1]
      by_cases a2 : a.toNat < 128
      · exact absurd ⟨(isPt_iff _).2 (by omega), (ix0 _).2 (by omega)⟩ hn
      · rw [if_neg a2]
    · obtain rfl : (a.toNat : Int) = x := by have := Option.some.inj h; omega
      have := (ix0 _).1 hi
      simp only [takeL]
      rw [if_pos a1, if_pos (by omega)]
      rfl
  · by_cases a2 : a.toNat < 224
    · have e : ixF a.toNat 4 = 1 := by unfold ixF; (repeat' split) <;> omega
      refine ⟨1, 128, 192, by omega, e, by rw [e]; rfl, by omega, by omega, ⟨fun l h => ?_, fun l hl h => ?_, fun l x hl h hn => ?_, fun l x hl h hp hi => ?_⟩⟩
      · match l, h with
        | [], _ => simp only [takeL]; rw [if_neg a1, if_pos a2]
      · match l, hl with
        | b :: l, _ =>
          simp only [takeL]; rw [if_neg a1, if_pos a2]
          by_cases f1 : fol b = true
          · simp [accL, f1] at h
          · rw [if_neg (fun hh => f1 hh.1)]
      · match l, hl with
        | b :: l, _ =>
          simp only [takeL]; rw [if_neg a1, if_pos a2]
          by_cases f1 : fol b = true
          · have hx : num2 a b = x := by simpa [accL, f1, num2] using h
            have e0 : num2 a b = ((a.toNat : Int) - 192) * 64 + ((b.toNat : Int) - 128) := rfl
            have := (fol_iff b).1 f1
            rw [hx]
            rw [if_neg (fun hh => hn ⟨hh.2.1, (ix1 x).2 (by omega)⟩)]
          · rw [if_neg (fun hh => f1 hh.1)]
      · match l, hl with
        | b :: l, _ =>
          simp only [takeL]; rw [if_neg a1, if_pos a2]
          by_cases f1 : fol b = true
          · have hx : num2 a b = x := by simpa [accL, f1, num2] using h
            rw [hx, if_pos ⟨f1, hp, ((ix1 x).1 hi).1⟩]
          · simp [accL, f1] at h
    · by_cases a3 : a.toNat < 240
      · have e : ixF a.toNat 4 = 2 := by unfold ixF; (repeat' split) <;> omega
        refine ⟨2, 2048, 224, by omega, e, by rw [e]; rfl, by omega, by omega, ⟨fun l h => ?_, fun l hl h => ?_, fun l x hl h hn => ?_, fun l x hl h hp hi => ?_⟩⟩
        · match l, h with
          | [], _ => simp only [takeL]; rw [if_neg a1, if_neg a2, if_pos a3]
          | [_], _ => simp only [takeL]; rw [if_neg a1, if_neg a2, if_pos a3]
        · match l, hl with
          | b :: c :: l, _ =>
            simp only [takeL]; rw [if_neg a1, if_neg a2, if_pos a3]
            by_cases f1 : fol b = true
            · by_cases f2 : fol c = true
              · simp [accL, f1, f2] at h
              · rw [if_neg (fun hh => f2 hh.2.1)]
            · rw [if_neg (fun hh => f1 hh.1)]
        · match l, hl with
          | b :: c :: l, _ =>
            simp only [takeL]; rw [if_neg a1, if_neg a2, if_pos a3]
            by_cases f1 : fol b = true
            · by_cases f2 : fol c = true
              · have hx : num3 a b c = x := by simpa [accL, f1, f2, num3] using h
                have e0 : num3 a b c = (((a.toNat : Int) - 224) * 64 + ((b.toNat : Int) - 128)) * 64 + ((c.toNat : Int) - 128) := rfl
                have := (fol_iff b).1 f1
                have := (fol_iff c).1 f2
                rw [hx]
                rw [if_neg (fun hh => hn ⟨hh.2.2.1, (ix2 x).2 (by omega)⟩)]
              · rw [if_neg (fun hh => f2 hh.2.1)]
            · rw [if_neg (fun hh => f1 hh.1)]
        · match l, hl with
          | b :: c :: l, _ =>
            simp only [takeL]; rw [if_neg a1, if_neg a2, if_pos a3]
            by_cases f1 : fol b = true
            · by_cases f2 : fol c = true
              · have hx : num3 a b c = x := by simpa [accL, f1, f2, num3] using h
                rw [hx, if_pos ⟨f1, f2, hp, ((ix2 x).1 hi).1⟩]
              · simp [accL, f1, f2] at h
            · simp [accL, f1] at h
      · have e : ixF a.toNat 4 = 3 := by unfold ixF; (repeat' split) <;> omega
        refine ⟨3, 65536, 240, by omega, e, by rw [e]; rfl, by omega, by omega, ⟨fun l h => ?_, fun l hl h => ?_, fun l x hl h hn => ?_, fun l x hl h hp hi => ?_⟩⟩
        · match l, h with
          | [], _ => simp only [takeL]; rw [if_neg a1, if_neg a2, if_neg a3]
          | [_], _ => simp only [takeL]; rw [if_neg a1, if_neg a2, if_neg a3]
          | [_, _], _ => simp only [takeL]; rw [if_neg a1, if_neg a2, if_neg a3]
        · match l, hl with
          | b :: c :: d :: l, _ =>
            simp only [takeL]; rw [if_neg a1, if_neg a2, if_neg a3]
            by_cases f1 : fol b = true
            · by_cases f2 : fol c = true
              · by_cases f3 : fol d = true
                · simp [accL, f1, f2, f3] at h
                · rw [if_neg (fun hh => f3 hh.2.2.1)]
              · rw [if_neg (fun hh => f2 hh.2.1)]
            · rw [if_neg (fun hh => f1 hh.1)]
        · match l, hl with
          | b :: c :: d :: l, _ =>
            simp only [takeL]; rw [if_neg a1, if_neg a2, if_neg a3]
            by_cases f1 : fol b = true
            · by_cases f2 : fol c = true
              · by_cases f3 : fol d = true
                · have hx : num4 a b c d = x := by simpa [accL, f1, f2, f3, num4] using h
                  rw [hx]
                  rw [if_neg (fun hh => hn ⟨hh.2.2.2.1, (ix3 x).2 hh.2.2.2.2⟩)]
                · rw [if_neg (fun hh => f3 hh.2.2.1)]
              · rw [if_neg (fun hh => f2 hh.2.1)]
            · rw [if_neg (fun hh => f1 hh.1)]
        · match l, hl with
          | b :: c :: d :: l, _ =>
            simp only [takeL]; rw [if_neg a1, if_neg a2, if_neg a3]
            by_cases f1 : fol b = true
            · by_cases f2 : fol c = true
              · by_cases f3 : fol d = true
                · have hx : num4 a b c d = x := by simpa [accL, f1, f2, f3, num4] using h
                  rw [hx, if_pos ⟨f1, f2, f3, hp, ((ix3 x).1 hi)⟩]
                · simp [accL, f1, f2, f3] at h
              · simp [accL, f1, f2] at h
            · simp [accL, f1] at h
end Go.Proofs.YtmagokkegadmiaaGreatDoor
namespace Go.Proofs.YtmagokkegadmiaaGreatDoor
open Go.RowKit

set_option maxHeartbeats 400000 in
theorem text_any (n : Int) (w : World) (h0 : -9223372036854775808 ≤ n) (h1 : n ≤ 9223372036854775807) (htab : Lib.TabIs Tryz.prog w "internal/strconv.uint64pow10" .u64 Lib.pow10Tab) :
    Calls Tryz.prog 72 #[.int .i64 n] w fun e w' => e = .returned (.string ⟨(textL n).toArray⟩) ∧ Below w.heap.size w w' := by
  by_cases hn : n < 0
  · have HE := Lib.hid (show textL n = [] from if_pos hn)
    go_enter Tryz.func72, Tryz.ntmps72
    go_wp2
    go_ret
    exact ⟨ret_s HE.out.symm, Below.refl _ _⟩
  · have HE := Lib.hid (show textL n = Lib.itoa n by unfold textL Lib.itoa; rw [if_neg hn, if_neg hn])
    go_enter Tryz.func72, Tryz.ntmps72
    go_wp2_with (go_at_call 99; refine (Tryz.strconv_Itoa n h0 h1 w htab).mono ?_; rintro e w' ⟨rfl, k, os, rfl⟩)
    go_ret
    exact ⟨ret_s HE.out.symm, below_grow (below_drewN (Below.refl _ _) k) (by simp) os⟩
def Tab (w : World) : Prop := Lib.TabIs Tryz.prog w "internal/strconv.uint64pow10" .u64 Lib.pow10Tab
theorem Tab.below {w w' : World} (h : Tab w) (hb : Below w.heap.size w w') : Tab w' := Lib.tabBelow_of_tabIs h w' hb
end Go.Proofs.YtmagokkegadmiaaGreatDoor
namespace Go.Proofs.YtmagokkegadmiaaGreatDoor
open Go.RowKit

set_option maxRecDepth 100000 in
theorem pof_any (n : Int) (w : World) (hn : in10 n) : Calls Tryz.prog 29 #[.int .i64 n] w fun e w' => e = .returned (.tuple #[.int .i64 (ofN n).1, .bool (ofN n).2]) ∧ Below w.heap.size w w' := by
  obtain ⟨m, hm⟩ : ∃ m, IntKind.i64.wrap (n - 1) = m := ⟨_, rfl⟩
  have hr0 : m = n - 1 ∨ (n = -9223372036854775808 ∧ m = 9223372036854775807) := by
    rw [← hm, IntKind.wrap_i64]
    have := hn.1
    have := hn.2
    omega
  cases hq : areN m with
  | true =>
    have hr : 0 ≤ m ∧ m ≤ 255 := by simpa [areN] using hq
    have hp : ofN n = (m, true) := by unfold ofN; rw [if_neg (by omega)]; congr 1; omega
    have hcall := fun W => are_at hq W
    rw [hp]
    clear hp hr hq hn hr0
    go_enter Tryz.func29, Tryz.ntmps29
    go_wp2_with fail
    refine (hcall _).mono ?_
    clear hcall
    rintro e w1 ⟨rfl, hb1⟩
    go_wp2_with fail
    go_ret2
    exact ⟨rfl, hb1⟩
  | false =>
    have hr : ¬ (0 ≤ m ∧ m ≤ 255) := by simpa [areN] using hq
    have hp : ofN n = (0, false) := by unfold ofN; rw [if_pos (by omega)]
    have hcall := fun W => are_at hq W
    rw [hp]
    clear hp hr hq hn hr0
    go_enter Tryz.func29, Tryz.ntmps29
    go_wp2_with fail
    refine (hcall _).mono ?_
    clear hcall
    rintro e w1 ⟨rfl, hb1⟩
    go_wp2_with fail
    go_ret2
    exact ⟨rfl, hb1⟩
end Go.Proofs.YtmagokkegadmiaaGreatDoor
