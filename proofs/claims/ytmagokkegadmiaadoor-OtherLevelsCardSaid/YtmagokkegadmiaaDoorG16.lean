/-
  Cut out of WpQ: what names no function of any dump. Layer 2, walked: what a code point is; the sizes, in their array. Layer 2, walked: the size of a code point, and of what begins with a byte. Layer 2, walked: the size of what begins with a byte. In a drawn region whose calls answer what the run alone tells: a value that is known by these answers; bytes that such an answer is, made a string. Layer 3, walked: the program's Num. Layer 10, the landed mods: Param and Of.
  Cut out of MdtQ.
-/
import Derived.Test.YtmagokkegadmiaaDoorG01
import Derived.Test.YtmagokkegadmiaaDoorG03
import Derived.Test.YtmagokkegadmiaaDoorG08
import Derived.Test.YtmagokkegadmiaaDoorG12
import Derived.Test.YtmagokkegadmiaaDoorG13
import Derived.Test.YtmagokkegadmiaaDoorG14
import Derived.Test.YtmagokkegadmiaaDoorG15
import Derived.BigQuiet
import Derived.Deep.QuietTactic
import Derived.Laws.Rows
import Derived.Deep.Cut
namespace Go.Proofs.YtmagokkegadmiaaDoor
open Go.RowKit

theorem may_small {s : Sq} (h : mayS s = 0) : s.priv.toNat < 128 ∧ s.final.toNat < 128 ∧ (putS s).length ≤ 20000 ∧ (s.kind = 1 ∨ s.kind = 2 ∨ s.kind = 3 ∨ s.kind = 4 ∨ s.kind = 5) := by
  obtain ⟨hdl, hv, hp, hil, hi, hd, hl, hb⟩ := ok_parts h
  have hk : s.kind = 1 ∨ s.kind = 2 ∨ s.kind = 3 ∨ s.kind = 4 ∨ s.kind = 5 := by
    unfold lastOk at hl
    split at hl
    · omega
    · split at hl
      · omega
      · simp only [Bool.and_eq_true, decide_eq_true_eq] at hl; omega
  refine ⟨?_, ?_, ?_, hk⟩
  · simp only [privOk, Bool.or_eq_true, decide_eq_true_eq] at hv
    rcases hv with hv | hv
    · rw [hv]; decide
    · have := (btw_iff _ _ _).1 hv; omega
  · unfold lastOk at hl
    split at hl
    · have := (btw_iff _ _ _).1 hl; omega
    · split at hl
      · simp only [Bool.and_eq_true] at hl
        have := (btw_iff _ _ _).1 hl.1; omega
      · simp only [Bool.and_eq_true, decide_eq_true_eq] at hl
        rw [hl.2]; decide
  · have h3 := body_len hp hil
    unfold putS
    (repeat' split) <;> simp <;> omega
end Go.Proofs.YtmagokkegadmiaaDoor
namespace Go.Proofs.YtmagokkegadmiaaDoor
open Go.RowKit

set_option maxHeartbeats 1000000 in
theorem isPt_any (r : Int) (w : World) : Calls Tryd.prog 67 #[.int .i64 r] w fun e w' => e = .returned (.bool (isPt r)) ∧ w = w' := by
  by_cases h0 : 0 ≤ r
  · by_cases h1 : r ≤ 1114111
    · by_cases h2 : r < 55296
      · go_enter Tryd.func67, Tryd.ntmps67
        go_wp2
        go_ret
        exact ⟨ret_b (((isPt_iff r).2 (by omega)).symm), rfl⟩
      · by_cases h3 : 57343 < r
        · go_enter Tryd.func67, Tryd.ntmps67
          go_wp2
          go_ret
          exact ⟨ret_b (((isPt_iff r).2 (by omega)).symm), rfl⟩
        · go_enter Tryd.func67, Tryd.ntmps67
          go_wp2
          go_ret
          exact ⟨ret_b (((isPt_no r).2 (by omega)).symm), rfl⟩
    · go_enter Tryd.func67, Tryd.ntmps67
      go_wp2
      go_ret
      exact ⟨ret_b (((isPt_no r).2 (by omega)).symm), rfl⟩
  · go_enter Tryd.func67, Tryd.ntmps67
    go_wp2
    go_ret
    exact ⟨ret_b (((isPt_no r).2 (by omega)).symm), rfl⟩

/-- The array of sizes, as it was laid. -/
def sizC : Array Value := #[.int .i64 1, .int .i64 0, .int .i64 0, .int .i64 2, .int .i64 128, .int .i64 192, .int .i64 3, .int .i64 2048, .int .i64 224, .int .i64 4, .int .i64 65536, .int .i64 240]
def Siz (w : World) : Prop := ∃ t fz, w.heap[1]? = some (.cells sizC t fz)
theorem Siz.below {w w' : World} {B : Nat} (h : Siz w) (hb : Below B w w') (hB : w.heap.size ≤ B) : Siz w' := by
  obtain ⟨t, fz, hh⟩ := h
  have := (Array.getElem?_eq_some_iff.1 hh).1
  exact ⟨t, fz, (hb.block _ (by omega)).trans hh⟩
theorem Siz.below' {w w' : World} (h : Siz w) (hb : Below w.heap.size w w') : Siz w' := h.below hb (Nat.le_refl _)

/-- A size, by its place. -/
def szA : Nat → Array Value
  | 0 => #[.int .i64 1, .int .i64 0, .int .i64 0]
  | 1 => #[.int .i64 2, .int .i64 128, .int .i64 192]
  | 2 => #[.int .i64 3, .int .i64 2048, .int .i64 224]
  | _ => #[.int .i64 4, .int .i64 65536, .int .i64 240]
/-- The place of a code point's size, of those up to place k; and of a first byte's. -/
def ixP (r : Int) (k : Nat) : Nat := if 3 < k ∧ 65536 ≤ r then 3 else if 2 < k ∧ 2048 ≤ r then 2 else if 1 < k ∧ 128 ≤ r then 1 else 0
def ixF (r : Int) (k : Nat) : Nat := if 3 < k ∧ 240 ≤ r then 3 else if 2 < k ∧ 224 ≤ r then 2 else if 1 < k ∧ 192 ≤ r then 1 else 0
end Go.Proofs.YtmagokkegadmiaaDoor
namespace Go.Proofs.YtmagokkegadmiaaDoor
open Go.RowKit

theorem siz_cell {w : World} {t : TypeId} {fz : Nat × Nat} (h : w.heap[1]? = some (.cells sizC t fz)) (i : Nat) : w.cell? ⟨1, i, none⟩ = sizC[i]? := cell_of_row w _ i sizC t fz h
theorem szA_form (j : Nat) : ∃ a b c : Int, szA j = #[.int .i64 a, .int .i64 b, .int .i64 c] := by
  unfold szA
  split <;> exact ⟨_, _, _, rfl⟩

set_option maxRecDepth 100000 in
set_option maxHeartbeats 4000000 in
theorem sizeOf_any (r : Int) (w : World) (hs : Siz w) : Calls Tryd.prog 77 #[.int .i64 r] w fun e w' => e = .returned (.agg (szA (ixP r 4))) ∧ Below w.heap.size w w' := by
  obtain ⟨t, fz, hh⟩ := hs
  have hlt := (Array.getElem?_eq_some_iff.1 hh).1
  have hlt0 : 0 < w.heap.size := Nat.zero_lt_of_lt hlt
  have c0 : w.cell? ⟨1, 0, none⟩ = some (.int .i64 1) := siz_cell hh 0
  have c1 : w.cell? ⟨1, 1, none⟩ = some (.int .i64 0) := siz_cell hh 1
  have c2 : w.cell? ⟨1, 2, none⟩ = some (.int .i64 0) := siz_cell hh 2
  have c3 : w.cell? ⟨1, 3, none⟩ = some (.int .i64 2) := siz_cell hh 3
  have c4 : w.cell? ⟨1, 4, none⟩ = some (.int .i64 128) := siz_cell hh 4
  have c5 : w.cell? ⟨1, 5, none⟩ = some (.int .i64 192) := siz_cell hh 5
  have c6 : w.cell? ⟨1, 6, none⟩ = some (.int .i64 3) := siz_cell hh 6
  have c7 : w.cell? ⟨1, 7, none⟩ = some (.int .i64 2048) := siz_cell hh 7
  have c8 : w.cell? ⟨1, 8, none⟩ = some (.int .i64 224) := siz_cell hh 8
  have c9 : w.cell? ⟨1, 9, none⟩ = some (.int .i64 4) := siz_cell hh 9
  have c10 : w.cell? ⟨1, 10, none⟩ = some (.int .i64 65536) := siz_cell hh 10
  have c11 : w.cell? ⟨1, 11, none⟩ = some (.int .i64 240) := siz_cell hh 11
  go_enter Tryd.func77, Tryd.ntmps77
  go_wp2
  have b0 := Blk.new w 123 #[.int .i64 0, .int .i64 0, .int .i64 0]
  have b1 := Blk.new (w.alloc (.cells #[.int .i64 0, .int .i64 0, .int .i64 0] 123)) 123 #[.int .i64 1, .int .i64 0, .int .i64 0]
  rw [World.size_alloc] at b1
  have hb0 : Below w.heap.size w ((w.alloc (.cells #[.int .i64 0, .int .i64 0, .int .i64 0] 123)).alloc (.cells #[.int .i64 1, .int .i64 0, .int .i64 0] 123)) := ((Below.refl _ w).alloc (Nat.le_refl _) _).alloc (by simp) _
  go_loopw [9] (fun i wr => ∃ k : Nat, k ≤ 4 ∧ i = .int .i64 k ∧ Blk wr w.heap.size 123 #[.int .i64 0, .int .i64 0, .int .i64 0] ∧ Blk wr (w.heap.size + 1) 123 (szA (ixP r k)) ∧ Below w.heap.size w wr) (fun i _ => 4 - (intOf i).toNat)
  case atStart => exact ⟨0, by omega, rfl, b0.alloc _, b1, hb0⟩
  case round =>
    obtain ⟨k, hk, rfl, p0, p1, hbw⟩ := hrel
    clear b0 b1 hb0 c0 c1 c2 c3 c4 c5 c6 c7 c8 c9 c10 c11
    have hz := p1.lt
    have q0 := p1.frozen 0
    have q1 := p1.frozen 1
    have q2 := p1.frozen 2
    obtain rfl | rfl | rfl | rfl | rfl : k = 0 ∨ k = 1 ∨ k = 2 ∨ k = 3 ∨ k = 4 := by omega
    · have i0 : ∀ w : World, (Instr.index 128 (.agg #[.int .i64 1, .int .i64 0, .int .i64 0, .int .i64 2, .int .i64 128, .int .i64 192, .int .i64 3, .int .i64 2048, .int .i64 224, .int .i64 4, .int .i64 65536, .int .i64 240]) (.int .i64 0)).run Tryd.prog w = .ok (.agg #[.int .i64 1, .int .i64 0, .int .i64 0]) w := fun _ => by kernel_rfl
      by_cases hr : 0 ≤ r
      · have f0 := Lib.hid (show szA (ixP r (0 + 1)) = szA 0 by rw [show ixP r (0 + 1) = 0 by unfold ixP; (repeat' split) <;> omega])
        obtain ⟨u0, u1, u2, hu⟩ := szA_form (ixP r 0)
        rw [hu] at p1
        have g0 := p1.cell 0
        have g1 := p1.cell 1
        have g2 := p1.cell 2
        go_wp2
        go_roundw
        case rel => exact ⟨0 + 1, by omega, by go_num, (p0.far3 (Nat.ne_of_lt (Nat.lt_succ_self _)) _ _ _).alloc _, by rw [f0.out]; exact (p1.set3 _ _ _).alloc _, (below_set3 hbw (Nat.le_succ _) _ _ _).alloc (by rw [set3_size]; exact hbw.size) _⟩
        case measure => simp [intOf]
      · have f0 := Lib.hid (show szA (ixP r (0 + 1)) = szA (ixP r 0) by rw [show ixP r (0 + 1) = ixP r 0 by unfold ixP; (repeat' split) <;> omega])
        go_wp2
        go_roundw
        case rel => exact ⟨0 + 1, by omega, by go_num, p0.alloc _, by rw [f0.out]; exact p1.alloc _, hbw.alloc hbw.size _⟩
        case measure => simp [intOf]
    · have i0 : ∀ w : World, (Instr.index 128 (.agg #[.int .i64 1, .int .i64 0, .int .i64 0, .int .i64 2, .int .i64 128, .int .i64 192, .int .i64 3, .int .i64 2048, .int .i64 224, .int .i64 4, .int .i64 65536, .int .i64 240]) (.int .i64 1)).run Tryd.prog w = .ok (.agg #[.int .i64 2, .int .i64 128, .int .i64 192]) w := fun _ => by kernel_rfl
      by_cases hr : 128 ≤ r
      · have f0 := Lib.hid (show szA (ixP r (1 + 1)) = szA 1 by rw [show ixP r (1 + 1) = 1 by unfold ixP; (repeat' split) <;> omega])
        obtain ⟨u0, u1, u2, hu⟩ := szA_form (ixP r 1)
        rw [hu] at p1
        have g0 := p1.cell 0
        have g1 := p1.cell 1
        have g2 := p1.cell 2
        go_wp2
        go_roundw
        case rel => exact ⟨1 + 1, by omega, by go_num, (p0.far3 (Nat.ne_of_lt (Nat.lt_succ_self _)) _ _ _).alloc _, by rw [f0.out]; exact (p1.set3 _ _ _).alloc _, (below_set3 hbw (Nat.le_succ _) _ _ _).alloc (by rw [set3_size]; exact hbw.size) _⟩
        case measure => simp [intOf]
      · have f0 := Lib.hid (show szA (ixP r (1 + 1)) = szA (ixP r 1) by rw [show ixP r (1 + 1) = ixP r 1 by unfold ixP; (repeat' split) <;> omega])
        go_wp2
        go_roundw
        case rel => exact ⟨1 + 1, by omega, by go_num, p0.alloc _, by rw [f0.out]; exact p1.alloc _, hbw.alloc hbw.size _⟩
        case measure => simp [intOf]
    · have i0 : ∀ w : World, (Instr.index 128 (.agg #[.int .i64 1, .int .i64 0, .int .i64 0, .int .i64 2, .int .i64 128, .int .i64 192, .int .i64 3, .int .i64 2048, .int .i64 224, .int .i64 4, .int .i64 65536, .int .i64 240]) (.int .i64 2)).run Tryd.prog w = .ok (.agg #[.int .i64 3, .int .i64 2048, .int .i64 224]) w := fun _ => by kernel_rfl
      by_cases hr : 2048 ≤ r
      · have f0 := Lib.hid (show szA (ixP r (2 + 1)) = szA 2 by rw [show ixP r (2 + 1) = 2 by unfold ixP; (repeat' split) <;> omega])
        obtain ⟨u0, u1, u2, hu⟩ := szA_form (ixP r 2)
        rw [hu] at p1
        have g0 := p1.cell 0
        have g1 := p1.cell 1
        have g2 := p1.cell 2
        go_wp2
        go_roundw
        case rel => exact ⟨2 + 1, by omega, by go_num, (p0.far3 (Nat.ne_of_lt (Nat.lt_succ_self _)) _ _ _).alloc _, by rw [f0.out]; exact (p1.set3 _ _ _).alloc _, (below_set3 hbw (Nat.le_succ _) _ _ _).alloc (by rw [set3_size]; exact hbw.size) _⟩
        case measure => simp [intOf]
      · have f0 := Lib.hid (show szA (ixP r (2 + 1)) = szA (ixP r 2) by rw [show ixP r (2 + 1) = ixP r 2 by unfold ixP; (repeat' split) <;> omega])
        go_wp2
        go_roundw
        case rel => exact ⟨2 + 1, by omega, by go_num, p0.alloc _, by rw [f0.out]; exact p1.alloc _, hbw.alloc hbw.size _⟩
        case measure => simp [intOf]
    · have i0 : ∀ w : World, (Instr.index 128 (.agg #[.int .i64 1, .int .i64 0, .int .i64 0, .int .i64 2, .int .i64 128, .int .i64 192, .int .i64 3, .int .i64 2048, .int .i64 224, .int .i64 4, .int .i64 65536, .int .i64 240]) (.int .i64 3)).run Tryd.prog w = .ok (.agg #[.int .i64 4, .int .i64 65536, .int .i64 240]) w := fun _ => by kernel_rfl
      by_cases hr : 65536 ≤ r
      · have f0 := Lib.hid (show szA (ixP r (3 + 1)) = szA 3 by rw [show ixP r (3 + 1) = 3 by unfold ixP; (repeat' split) <;> omega])
        obtain ⟨u0, u1, u2, hu⟩ := szA_form (ixP r 3)
        rw [hu] at p1
        have g0 := p1.cell 0
        have g1 := p1.cell 1
        have g2 := p1.cell 2
        go_wp2
        go_roundw
        case rel => exact ⟨3 + 1, by omega, by go_num, (p0.far3 (Nat.ne_of_lt (Nat.lt_succ_self _)) _ _ _).alloc _, by rw [f0.out]; exact (p1.set3 _ _ _).alloc _, (below_set3 hbw (Nat.le_succ _) _ _ _).alloc (by rw [set3_size]; exact hbw.size) _⟩
        case measure => simp [intOf]
      · have f0 := Lib.hid (show szA (ixP r (3 + 1)) = szA (ixP r 3) by rw [show ixP r (3 + 1) = ixP r 3 by unfold ixP; (repeat' split) <;> omega])
        go_wp2
        go_roundw
        case rel => exact ⟨3 + 1, by omega, by go_num, p0.alloc _, by rw [f0.out]; exact p1.alloc _, hbw.alloc hbw.size _⟩
        case measure => simp [intOf]
    · obtain ⟨u0, u1, u2, hu⟩ := szA_form (ixP r 4)
      rw [hu] at p1
      have g0 := p1.cell 0
      have g1 := p1.cell 1
      have g2 := p1.cell 2
      have y0 := p0.cell 0
      have y1 := p0.cell 1
      have y2 := p0.cell 2
      have x0 := p0.frozen 0
      have x1 := p0.frozen 1
      have x2 := p0.frozen 2
      have hlt2 := p0.lt
      go_wp2
      exact bodyPost_ret (v := .agg #[.int .i64 u0, .int .i64 u1, .int .i64 u2]) (by simp [results, Tryd.results77, go_sem, y0, y1, y2]) rfl ⟨by rw [hu], below_set3 hbw (Nat.le_refl _) _ _ _⟩
end Go.Proofs.YtmagokkegadmiaaDoor
namespace Go.Proofs.YtmagokkegadmiaaDoor
open Go.RowKit

set_option maxRecDepth 100000 in
set_option maxHeartbeats 4000000 in
theorem sizeByFirst_any (r : Int) (w : World) (hs : Siz w) : Calls Tryd.prog 83 #[.int .i64 r] w fun e w' => e = .returned (.agg (szA (ixF r 4))) ∧ Below w.heap.size w w' := by
  obtain ⟨t, fz, hh⟩ := hs
  have hlt := (Array.getElem?_eq_some_iff.1 hh).1
  have hlt0 : 0 < w.heap.size := Nat.zero_lt_of_lt hlt
  have c0 : w.cell? ⟨1, 0, none⟩ = some (.int .i64 1) := siz_cell hh 0
  have c1 : w.cell? ⟨1, 1, none⟩ = some (.int .i64 0) := siz_cell hh 1
  have c2 : w.cell? ⟨1, 2, none⟩ = some (.int .i64 0) := siz_cell hh 2
  have c3 : w.cell? ⟨1, 3, none⟩ = some (.int .i64 2) := siz_cell hh 3
  have c4 : w.cell? ⟨1, 4, none⟩ = some (.int .i64 128) := siz_cell hh 4
  have c5 : w.cell? ⟨1, 5, none⟩ = some (.int .i64 192) := siz_cell hh 5
  have c6 : w.cell? ⟨1, 6, none⟩ = some (.int .i64 3) := siz_cell hh 6
  have c7 : w.cell? ⟨1, 7, none⟩ = some (.int .i64 2048) := siz_cell hh 7
  have c8 : w.cell? ⟨1, 8, none⟩ = some (.int .i64 224) := siz_cell hh 8
  have c9 : w.cell? ⟨1, 9, none⟩ = some (.int .i64 4) := siz_cell hh 9
  have c10 : w.cell? ⟨1, 10, none⟩ = some (.int .i64 65536) := siz_cell hh 10
  have c11 : w.cell? ⟨1, 11, none⟩ = some (.int .i64 240) := siz_cell hh 11
  go_enter Tryd.func83, Tryd.ntmps83
  go_wp2
  have b0 := Blk.new w 123 #[.int .i64 0, .int .i64 0, .int .i64 0]
  have b1 := Blk.new (w.alloc (.cells #[.int .i64 0, .int .i64 0, .int .i64 0] 123)) 123 #[.int .i64 1, .int .i64 0, .int .i64 0]
  rw [World.size_alloc] at b1
  have hb0 : Below w.heap.size w ((w.alloc (.cells #[.int .i64 0, .int .i64 0, .int .i64 0] 123)).alloc (.cells #[.int .i64 1, .int .i64 0, .int .i64 0] 123)) := ((Below.refl _ w).alloc (Nat.le_refl _) _).alloc (by simp) _
  go_loopw [9] (fun i wr => ∃ k : Nat, k ≤ 4 ∧ i = .int .i64 k ∧ Blk wr w.heap.size 123 #[.int .i64 0, .int .i64 0, .int .i64 0] ∧ Blk wr (w.heap.size + 1) 123 (szA (ixF r k)) ∧ Below w.heap.size w wr) (fun i _ => 4 - (intOf i).toNat)
  case atStart => exact ⟨0, by omega, rfl, b0.alloc _, b1, hb0⟩
  case round =>
    obtain ⟨k, hk, rfl, p0, p1, hbw⟩ := hrel
    clear b0 b1 hb0 c0 c1 c2 c3 c4 c5 c6 c7 c8 c9 c10 c11
    have hz := p1.lt
    have q0 := p1.frozen 0
    have q1 := p1.frozen 1
    have q2 := p1.frozen 2
    obtain rfl | rfl | rfl | rfl | rfl : k = 0 ∨ k = 1 ∨ k = 2 ∨ k = 3 ∨ k = 4 := by omega
    · have i0 : ∀ w : World, (Instr.index 128 (.agg #[.int .i64 1, .int .i64 0, .int .i64 0, .int .i64 2, .int .i64 128, .int .i64 192, .int .i64 3, .int .i64 2048, .int .i64 224, .int .i64 4, .int .i64 65536, .int .i64 240]) (.int .i64 0)).run Tryd.prog w = .ok (.agg #[.int .i64 1, .int .i64 0, .int .i64 0]) w := fun _ => by kernel_rfl
      by_cases hr : 0 ≤ r
      · have f0 := Lib.hid (show szA (ixF r (0 + 1)) = szA 0 by rw [show ixF r (0 + 1) = 0 by unfold ixF; (repeat' split) <;> omega])
        obtain ⟨u0, u1, u2, hu⟩ := szA_form (ixF r 0)
        rw [hu] at p1
        have g0 := p1.cell 0
        have g1 := p1.cell 1
        have g2 := p1.cell 2
        go_wp2
        go_roundw
        case rel => exact ⟨0 + 1, by omega, by go_num, (p0.far3 (Nat.ne_of_lt (Nat.lt_succ_self _)) _ _ _).alloc _, by rw [f0.out]; exact (p1.set3 _ _ _).alloc _, (below_set3 hbw (Nat.le_succ _) _ _ _).alloc (by rw [set3_size]; exact hbw.size) _⟩
        case measure => simp [intOf]
      · have f0 := Lib.hid (show szA (ixF r (0 + 1)) = szA (ixF r 0) by rw [show ixF r (0 + 1) = ixF r 0 by unfold ixF; (repeat' split) <;> omega])
        go_wp2
        go_roundw
        case rel => exact ⟨0 + 1, by omega, by go_num, p0.alloc _, by rw [f0.out]; exact p1.alloc _, hbw.alloc hbw.size _⟩
        case measure => simp [intOf]
    · have i0 : ∀ w : World, (Instr.index 128 (.agg #[.int .i64 1, .int .i64 0, .int .i64 0, .int .i64 2, .int .i64 128, .int .i64 192, .int .i64 3, .int .i64 2048, .int .i64 224, .int .i64 4, .int .i64 65536, .int .i64 240]) (.int .i64 1)).run Tryd.prog w = .ok (.agg #[.int .i64 2, .int .i64 128, .int .i64 192]) w := fun _ => by kernel_rfl
      by_cases hr : 192 ≤ r
      · have f0 := Lib.hid (show szA (ixF r (1 + 1)) = szA 1 by rw [show ixF r (1 + 1) = 1 by unfold ixF; (repeat' split) <;> omega])
        obtain ⟨u0, u1, u2, hu⟩ := szA_form (ixF r 1)
        rw [hu] at p1
        have g0 := p1.cell 0
        have g1 := p1.cell 1
        have g2 := p1.cell 2
        go_wp2
        go_roundw
        case rel => exact ⟨1 + 1, by omega, by go_num, (p0.far3 (Nat.ne_of_lt (Nat.lt_succ_self _)) _ _ _).alloc _, by rw [f0.out]; exact (p1.set3 _ _ _).alloc _, (below_set3 hbw (Nat.le_succ _) _ _ _).alloc (by rw [set3_size]; exact hbw.size) _⟩
        case measure => simp [intOf]
      · have f0 := Lib.hid (show szA (ixF r (1 + 1)) = szA (ixF r 1) by rw [show ixF r (1 + 1) = ixF r 1 by unfold ixF; (repeat' split) <;> omega])
        go_wp2
        go_roundw
        case rel => exact ⟨1 + 1, by omega, by go_num, p0.alloc _, by rw [f0.out]; exact p1.alloc _, hbw.alloc hbw.size _⟩
        case measure => simp [intOf]
    · have i0 : ∀ w : World, (Instr.index 128 (.agg #[.int .i64 1, .int .i64 0, .int .i64 0, .int .i64 2, .int .i64 128, .int .i64 192, .int .i64 3, .int .i64 2048, .int .i64 224, .int .i64 4, .int .i64 65536, .int .i64 240]) (.int .i64 2)).run Tryd.prog w = .ok (.agg #[.int .i64 3, .int .i64 2048, .int .i64 224]) w := fun _ => by kernel_rfl
      by_cases hr : 224 ≤ r
      · have f0 := Lib.hid (show szA (ixF r (2 + 1)) = szA 2 by rw [show ixF r (2 + 1) = 2 by unfold ixF; (repeat' split) <;> omega])
        obtain ⟨u0, u1, u2, hu⟩ := szA_form (ixF r 2)
        rw [hu] at p1
        have g0 := p1.cell 0
        have g1 := p1.cell 1
        have g2 := p1.cell 2
        go_wp2
        go_roundw
        case rel => exact ⟨2 + 1, by omega, by go_num, (p0.far3 (Nat.ne_of_lt (Nat.lt_succ_self _)) _ _ _).alloc _, by rw [f0.out]; exact (p1.set3 _ _ _).alloc _, (below_set3 hbw (Nat.le_succ _) _ _ _).alloc (by rw [set3_size]; exact hbw.size) _⟩
        case measure => simp [intOf]
      · have f0 := Lib.hid (show szA (ixF r (2 + 1)) = szA (ixF r 2) by rw [show ixF r (2 + 1) = ixF r 2 by unfold ixF; (repeat' split) <;> omega])
        go_wp2
        go_roundw
        case rel => exact ⟨2 + 1, by omega, by go_num, p0.alloc _, by rw [f0.out]; exact p1.alloc _, hbw.alloc hbw.size _⟩
        case measure => simp [intOf]
    · have i0 : ∀ w : World, (Instr.index 128 (.agg #[.int .i64 1, .int .i64 0, .int .i64 0, .int .i64 2, .int .i64 128, .int .i64 192, .int .i64 3, .int .i64 2048, .int .i64 224, .int .i64 4, .int .i64 65536, .int .i64 240]) (.int .i64 3)).run Tryd.prog w = .ok (.agg #[.int .i64 4, .int .i64 65536, .int .i64 240]) w := fun _ => by kernel_rfl
      by_cases hr : 240 ≤ r
      · have f0 := Lib.hid (show szA (ixF r (3 + 1)) = szA 3 by rw [show ixF r (3 + 1) = 3 by unfold ixF; (repeat' split) <;> omega])
        obtain ⟨u0, u1, u2, hu⟩ := szA_form (ixF r 3)
        rw [hu] at p1
        have g0 := p1.cell 0
        have g1 := p1.cell 1
        have g2 := p1.cell 2
        go_wp2
        go_roundw
        case rel => exact ⟨3 + 1, by omega, by go_num, (p0.far3 (Nat.ne_of_lt (Nat.lt_succ_self _)) _ _ _).alloc _, by rw [f0.out]; exact (p1.set3 _ _ _).alloc _, (below_set3 hbw (Nat.le_succ _) _ _ _).alloc (by rw [set3_size]; exact hbw.size) _⟩
        case measure => simp [intOf]
      · have f0 := Lib.hid (show szA (ixF r (3 + 1)) = szA (ixF r 3) by rw [show ixF r (3 + 1) = ixF r 3 by unfold ixF; (repeat' split) <;> omega])
        go_wp2
        go_roundw
        case rel => exact ⟨3 + 1, by omega, by go_num, p0.alloc _, by rw [f0.out]; exact p1.alloc _, hbw.alloc hbw.size _⟩
        case measure => simp [intOf]
    · obtain ⟨u0, u1, u2, hu⟩ := szA_form (ixF r 4)
      rw [hu] at p1
      have g0 := p1.cell 0
      have g1 := p1.cell 1
      have g2 := p1.cell 2
      have y0 := p0.cell 0
      have y1 := p0.cell 1
      have y2 := p0.cell 2
      have x0 := p0.frozen 0
      have x1 := p0.frozen 1
      have x2 := p0.frozen 2
      have hlt2 := p0.lt
      go_wp2
      exact bodyPost_ret (v := .agg #[.int .i64 u0, .int .i64 u1, .int .i64 u2]) (by simp [results, Tryd.results83, go_sem, y0, y1, y2]) rfl ⟨by rw [hu], below_set3 hbw (Nat.le_refl _) _ _ _⟩
end Go.Proofs.YtmagokkegadmiaaDoor
namespace Go.Proofs.YtmagokkegadmiaaDoor
open Go.RowKit

section
variable {P : Program} {ops : Array Oper} {md : Region.Mode} {w1 : World} {K : List Fact} {ix iz : Nat} {R0 R1 : (Tmp → Value) → World → World → Prop} {aF : (Tmp → Value) → Act} {i : Nat} {o : Oper}
theorem goesK_know (v : Value) (hst : ∀ f ∈ K, f.ok) (hah : Ahead md ops ix i) (hio : ops[i]? = some o) (hx : i ≠ ix) (hz : i ≠ iz) (hni : (K.all fun f => f.i != i) = true) (hw : ∀ g, Region.wanted o (yielded ops (aF g).tmps) = true) {d0 : Tmp} (h0 : o.dst = some d0) (hd : ∀ g, (aF g).tmps[d0]? = some v)
    (h : ∀ g w, Below w1.heap.size w1 w → (∀ (q : Nat) (f : Fact), K[q]? = some f → edgeB md ops i f.i = true → f.F (g f.d) w) → (execOp (aF g).eval o).run P w = .ok (.value v) w) :
    GoesM P md ops aF (SK md ops w1 K ix iz R0 R1) i o := fun l g w hsz hf hrd hS => by
  rw [if_pos (hw g)]
  have hfx := hah l hsz hS.shut hf
  obtain ⟨h1, h2⟩ := hS.pre hfx
  refine .inl ⟨v, w, .inl (h g w h1 fun q f' hf' he => h2 f' (List.mem_of_getElem? hf') ?_), g, .inl rfl, (fun d' h' => by rw [h0] at h'; cases h'; exact hd g), hS.quiet hst (hS.shut.step hio hrd) (Below.refl _ _) hx hz hni hfx⟩
  unfold edgeB at he
  rw [hio] at he
  obtain ⟨e, he, hb⟩ := Array.any_eq_true'.1 he
  simp only [Bool.and_eq_true, beq_iff_eq] at hb
  rw [← hb.2]
  exact hrd e he hb.1
/-- What a call that tells bytes answers. -/
def FB (L : List UInt8) (v : Value) (w : World) : Prop := ∃ A c, v = .slice A L.length c ∧ Rd w A (bs L)
theorem fb_ok (i : Nat) (d : Tmp) (L : List UInt8) : (⟨i, d, FB L⟩ : Fact).ok := fun _ _ _ ⟨A, c, e, h⟩ hb => ⟨A, c, e, h.below hb⟩
theorem fb_out {L : List UInt8} {w : World} {f : FuncId} {args : Array Value} (h : Calls P f args w (Out L w)) : Calls P f args w fun e w' => ∃ v, e = .returned v ∧ FB L v w' ∧ Below w.heap.size w w' :=
  h.mono fun _ _ ⟨A, c, he, hr, hb⟩ => ⟨_, he, ⟨A, c, rfl, hr⟩, hb⟩
theorem goesK_str {L : List UInt8} {src dst e : TypeId} {x : Operand} {j : Nat} {d : Tmp} (p : Nat) (hat : K[p]? = some ⟨j, d, FB L⟩) (hed : edgeB md ops i j = true) (hsrc : P.underlying src = some (.slice e)) (he : P.underlying e = some (.int .u8)) (hdst : P.underlying dst = some .string)
    (hst : ∀ f ∈ K, f.ok) (hah : Ahead md ops ix i) (hio : ops[i]? = some o) (hx : i ≠ ix) (hz : i ≠ iz) (hni : (K.all fun f => f.i != i) = true) (hw : ∀ g, Region.wanted o (yielded ops (aF g).tmps) = true) {d0 : Tmp} (h0 : o.dst = some d0) (hd : ∀ g, (aF g).tmps[d0]? = some (.string ⟨L.toArray⟩))
    (ho : o.op = .convert src dst x) (hxv : ∀ g, (aF g).eval x = g d) : GoesM P md ops aF (SK md ops w1 K ix iz R0 R1) i o :=
  goesK_know _ hst hah hio hx hz hni hw h0 hd fun g w _ hin => by
    obtain ⟨A, c, hv, hr⟩ := hin p _ hat hed
    simp only at hv
    unfold execOp
    simp only [ho, hxv, hv, Sem.run_bind, Sem.run_pure, conv_str hsrc he rfl hr dst hdst, Result.andThen_ok]
/-- Bytes that are known, made a string. -/
theorem goesK_conv {L : List UInt8} {n c : Nat} {A : Option Addr} {src dst e : TypeId} {x : Operand} (hn : L.length = n) (hrd : ∀ W, Below w1.heap.size w1 W → Rd W A (bs L)) (hsrc : P.underlying src = some (.slice e)) (he : P.underlying e = some (.int .u8)) (hdst : P.underlying dst = some .string)
    (hst : ∀ f ∈ K, f.ok) (hah : Ahead md ops ix i) (hio : ops[i]? = some o) (hx : i ≠ ix) (hz : i ≠ iz) (hni : (K.all fun f => f.i != i) = true) (hw : ∀ g, Region.wanted o (yielded ops (aF g).tmps) = true) {d0 : Tmp} (h0 : o.dst = some d0) (hd : ∀ g, (aF g).tmps[d0]? = some (.string ⟨L.toArray⟩))
    (ho : o.op = .convert src dst x) (hxv : ∀ g, (aF g).eval x = .slice A n c) : GoesM P md ops aF (SK md ops w1 K ix iz R0 R1) i o :=
  goesK_know _ hst hah hio hx hz hni hw h0 hd fun g w hb _ => by
    unfold execOp
    simp only [ho, hxv, Sem.run_bind, Sem.run_pure, conv_str hsrc he hn (hrd w hb) dst hdst, Result.andThen_ok]
/-- How many bytes such an answer has. -/
theorem goesK_len {L : List UInt8} {j : Nat} {d : Tmp} (p : Nat) (hat : K[p]? = some ⟨j, d, FB L⟩) (hed : edgeB md ops i j = true)
    (hst : ∀ f ∈ K, f.ok) (hah : Ahead md ops ix i) (hio : ops[i]? = some o) (hx : i ≠ ix) (hz : i ≠ iz) (hni : (K.all fun f => f.i != i) = true) (hw : ∀ g, Region.wanted o (yielded ops (aF g).tmps) = true) {d0 : Tmp} (h0 : o.dst = some d0) (hd : ∀ g, (aF g).tmps[d0]? = some (.int .i64 (L.length : Int)))
    (hr : ∀ (g : Tmp → Value) (A : Option Addr) (c : Nat) (w : World), g d = .slice A L.length c → (execOp (aF g).eval o).run P w = .ok (.value (.int .i64 (L.length : Int))) w) : GoesM P md ops aF (SK md ops w1 K ix iz R0 R1) i o :=
  goesK_know _ hst hah hio hx hz hni hw h0 hd fun g w _ hin => by
    obtain ⟨A, c, hv, _⟩ := hin p _ hat hed
    exact hr g A c w hv
end
end Go.Proofs.YtmagokkegadmiaaDoor
namespace Go.Proofs.YtmagokkegadmiaaDoor
open Go.RowKit

/-- A sequence of numbers. -/
def numS (a b : UInt8) (l : List Int) : Sq := ⟨1, a, l.map fun n => [n], [], b, []⟩
/-- What Num tells. -/
def NumP (a b : UInt8) (l : List Int) (w : World) (e : Ending) (w' : World) : Prop :=
  (∃ A c, e = .returned (sqV (numS a b l) A c) ∧ RdP w' A (numS a b l).params) ∧ Below w.heap.size w w'
/-- The same, with its blocks' kinds: it outlives stores into blocks of other kinds. -/
def NumPN (a b : UInt8) (l : List Int) (w : World) (e : Ending) (w' : World) : Prop :=
  (∃ A c g, e = .returned (sqV (numS a b l) A c) ∧ RdPN g w' A (numS a b l).params) ∧ Below w.heap.size w w'

set_option maxRecDepth 100000 in
set_option maxHeartbeats 8000000 in
theorem num_anyN (a b : UInt8) (A : Option Addr) (n c : Nat) (l : List Int) (w : World) (hn : l.length = n) (hl : n ≤ 4294967296) (hr : Rd w A (is_ l)) :
    Calls Tryd.prog 26 #[.int .u8 (a.toNat : Int), .int .u8 (b.toNat : Int), .slice A n c] w (NumPN a b l w) := by
  obtain ⟨j0, hj, hy0, hy1, hy2⟩ : ∃ i, Tryd.prog.info? 68 = some i ∧ i.zero = some (.slice none 0 0) ∧ i.size = 1 ∧ i.bytes = 24 := ⟨_, rfl, rfl, rfl, rfl⟩
  have HN := Lib.hid hn
  clear hn
  go_enter Tryd.func26, Tryd.ntmps26
  go_wp2_with fail
  have hb0 : Below w.heap.size w ((w.alloc (.cells #[.int .i64 0, .int .u8 0, .slice none 0 0, .string ⟨#[]⟩, .int .u8 0, .string ⟨#[]⟩] 43)).alloc (.cells #[.int .i64 1, .int .u8 (a.toNat : Int), .slice none 0 0, .string ⟨#[]⟩, .int .u8 (b.toNat : Int), .string ⟨#[]⟩] 43)) := ((Below.refl _ w).alloc (Nat.le_refl _) _).alloc (by simp) _
  have hz0 : Blk ((w.alloc (.cells #[.int .i64 0, .int .u8 0, .slice none 0 0, .string ⟨#[]⟩, .int .u8 0, .string ⟨#[]⟩] 43)).alloc (.cells #[.int .i64 1, .int .u8 (a.toNat : Int), .slice none 0 0, .string ⟨#[]⟩, .int .u8 (b.toNat : Int), .string ⟨#[]⟩] 43)) w.heap.size 43 #[.int .i64 0, .int .u8 0, .slice none 0 0, .string ⟨#[]⟩, .int .u8 0, .string ⟨#[]⟩] := (Blk.new w _ _).alloc _
  have hs0 := Blk.new (w.alloc (.cells #[.int .i64 0, .int .u8 0, .slice none 0 0, .string ⟨#[]⟩, .int .u8 0, .string ⟨#[]⟩] 43)) 43 #[.int .i64 1, .int .u8 (a.toNat : Int), .slice none 0 0, .string ⟨#[]⟩, .int .u8 (b.toNat : Int), .string ⟨#[]⟩]
  rw [World.size_alloc] at hs0
  have hsz : ((w.alloc (.cells #[.int .i64 0, .int .u8 0, .slice none 0 0, .string ⟨#[]⟩, .int .u8 0, .string ⟨#[]⟩] 43)).alloc (.cells #[.int .i64 1, .int .u8 (a.toNat : Int), .slice none 0 0, .string ⟨#[]⟩, .int .u8 (b.toNat : Int), .string ⟨#[]⟩] 43)).heap.size = w.heap.size + 2 := by simp
  have HSZ := Lib.hid hsz
  clear hsz
  generalize ((w.alloc (.cells #[.int .i64 0, .int .u8 0, .slice none 0 0, .string ⟨#[]⟩, .int .u8 0, .string ⟨#[]⟩] 43)).alloc (.cells #[.int .i64 1, .int .u8 (a.toNat : Int), .slice none 0 0, .string ⟨#[]⟩, .int .u8 (b.toNat : Int), .string ⟨#[]⟩] 43)) = W0 at *
  have hg1 : w.heap.size < w.heap.size + 1 := Nat.lt_succ_self _
  have hg2 : w.heap.size + 1 < W0.heap.size := hs0.lt
  generalize w.heap.size + 1 = g at *
  go_loopw [15] (fun i wr => ∃ (k : Nat) (v : Value) (xs : List Value), k ≤ n ∧ i = .int .i64 k ∧ Own wr W0.heap.size 68 1 v k xs ∧ (∃ B2, B2 ≤ wr.heap.size ∧ Rows wr B2 3 xs ((l.take k).map fun n => [n])) ∧ Blk wr w.heap.size 43 #[.int .i64 0, .int .u8 0, .slice none 0 0, .string ⟨#[]⟩, .int .u8 0, .string ⟨#[]⟩] ∧ Blk wr g 43 #[.int .i64 1, .int .u8 (a.toNat : Int), v, .string ⟨#[]⟩, .int .u8 (b.toNat : Int), .string ⟨#[]⟩] ∧ Below w.heap.size w wr ∧ W0.heap.size ≤ wr.heap.size) (fun i _ => n - (intOf i).toNat)
  case atStart => exact ⟨0, _, [], Nat.zero_le _, rfl, Own.nil_ _ _ _ _, ⟨0, Nat.zero_le _, by rfl, fun k hk => absurd hk (by simp)⟩, hz0, hs0, hb0, Nat.le_refl _⟩
  case round =>
    obtain ⟨k, v, xs, hk, rfl, ho, ⟨B2, hB2, hrs⟩, hz, hs, hbw, hW⟩ := hrel
    clear hz0 hs0 hb0
    obtain ⟨c0, c1, c2, c3, c4, c5⟩ := Blk.cells6 hs
    have fz2 := hs.frozen 2
    by_cases hlt : k < n
    · have hkl : k < l.length := by rw [HN.out]; exact hlt
      obtain ⟨bb, oo, hA, hbb, hcc⟩ := (hr.below hbw).int_at (by rw [HN.out]; omega)
      cases hA
      have hck := hcc k hkl
      obtain ⟨x, hx⟩ : ∃ x, l[k]'hkl = x := ⟨_, rfl⟩
      rw [hx] at hck
      have HX := Lib.hid (show l.take (k + 1) = l.take k ++ [x] by rw [List.take_succ_eq_append_getElem hkl, hx])
      clear hx hcc
      obtain ⟨Av, cv, rfl, _⟩ := ho.form
      have hown1 := (ho.alloc (.cells #[.int .i64 x] 3)).alloc (.cells #[.slice (some ⟨wr.heap.size, 0, none⟩) 1 1] 68)
      have hrd1 : Rd ((wr.alloc (.cells #[.int .i64 x] 3)).alloc (.cells #[.slice (some ⟨wr.heap.size, 0, none⟩) 1 1] 68)) (some ⟨wr.heap.size + 1, 0, none⟩) [.slice (some ⟨wr.heap.size, 0, none⟩) 1 1] := by
        have := Rd.block (xs := [.slice (some ⟨wr.heap.size, 0, none⟩) 1 1]) (heap_alloc_new (wr.alloc (.cells #[.int .i64 x] 3)) (.cells #[.slice (some ⟨wr.heap.size, 0, none⟩) 1 1] 68)) (by simp)
        rwa [World.size_alloc] at this
      have hin : RowI (wr.alloc (.cells #[.int .i64 x] 3)) (wr.heap.size + 1) 3 (some ⟨wr.heap.size, 0, none⟩) [x] := by
        obtain ⟨_, A', c', h1, h2⟩ := own_row (p := [x]) (own_lit (wr.alloc (.cells #[.int .i64 x] 3)) 0 3 wr.heap.size (.int .i64 x) (Nat.zero_le _) (heap_alloc_new wr _))
        cases h1
        rwa [World.size_alloc] at h2
      have hrs1 := ((hrs.keep (Nat.le_refl B2) (fun q hq _ => Below.heap_alloc wr (.cells #[.int .i64 x] 3) q (by omega))).keep (B' := wr.heap.size + 1) (by omega) (fun _ _ _ => rfl)).snoc2 (n := 1) rfl (c := 1) hin
      have hrs2 := hrs1.keep (Nat.le_refl _) (fun q hq _ => Below.heap_alloc (wr.alloc (.cells #[.int .i64 x] 3)) (.cells #[.slice (some ⟨wr.heap.size, 0, none⟩) 1 1] 68) q (by simp; omega))
      have hz2 := (hz.alloc (.cells #[.int .i64 x] 3)).alloc (.cells #[.slice (some ⟨wr.heap.size, 0, none⟩) 1 1] 68)
      have hs2 := (hs.alloc (.cells #[.int .i64 x] 3)).alloc (.cells #[.slice (some ⟨wr.heap.size, 0, none⟩) 1 1] 68)
      have hb2 : Below w.heap.size w ((wr.alloc (.cells #[.int .i64 x] 3)).alloc (.cells #[.slice (some ⟨wr.heap.size, 0, none⟩) 1 1] 68)) := (hbw.alloc hbw.size _).alloc (Nat.le_trans hbw.size (by simp)) _
      have h63 : k + 1 ≤ maxLen := by simp only [maxLen]; omega
      have hlim : (k + 1) * 24 ≤ 140737488355328 := by omega
      have hbs : W0.heap.size ≤ ((wr.alloc (.cells #[.int .i64 x] 3)).alloc (.cells #[.slice (some ⟨wr.heap.size, 0, none⟩) 1 1] 68)).heap.size := by simp; omega
      have hsz2 : wr.heap.size + 1 ≤ ((wr.alloc (.cells #[.int .i64 x] 3)).alloc (.cells #[.slice (some ⟨wr.heap.size, 0, none⟩) 1 1] 68)).heap.size := by simp
      clear hrs hrs1 hin ho
      go_wp2_with (first | (at_builtin; refine list_app _ rfl (.tmp 20) (.tmp 23) 41 rfl W0.heap.size 68 j0 _ 1 24 Tryd.underlying41 hj hy0 hy1 hy2 rfl Nat.one_pos _ _ _ rfl hown1 _ 1 1 [.slice (some ⟨wr.heap.size, 0, none⟩) 1 1] rfl rfl hrd1 (sl_one _ _ _) h63 hlim hbs ?_; intro v5 w5 hown5 hg5; obtain ⟨A5, c5, rfl, hf5⟩ := hown5.form; clear hf5; have hs5 := hs2.grown hg5 (hown1.no_cells hs2 (by decide)); have fz5 := hs5.frozen 2; obtain ⟨e0, e1, e2, e3, e4, e5⟩ := Blk.cells6 hs5))
      have hz5 := hz2.grown hg5 (hown1.no_cells hz2 (by decide))
      have hrs5 := hrs2.keep (B' := wr.heap.size + 1) (Nat.le_refl _) (keep_out hown1 (by decide) hg5)
      have hb5 : Below w.heap.size w w5 := hb2.grown hg5 (Nat.le_trans hbw.size (by simp; omega)) (fun g hg => by have := (hown1.lt g hg).1; have := HSZ.out; omega)
      have hsz5 : wr.heap.size + 1 ≤ w5.heap.size := Nat.le_trans hsz2 hg5.size
      have hgs := grown_setCell g 2 (.slice A5 (k + 1) c5) w5
      clear hg5 hown1 hrd1 hz2 hs2 hb2 h63 hlim hbs hsz2 hrs2
      go_wp2_with fail
      go_roundw
      case rel =>
        refine ⟨k + 1, _, xs ++ [.slice (some ⟨wr.heap.size, 0, none⟩) 1 1], by omega, by go_num, hown5.kept hgs (.inr (hown5.no_cells hs5 (by decide))), ⟨wr.heap.size + 1, by simp; exact hsz5, ?_⟩, hz5.far (by show w.heap.size ≠ g; omega) _, hs5.set 2 _, hb5.setCell (p := ⟨g, 2, none⟩) (Nat.le_of_lt hg1) _, Nat.le_trans hW (Nat.le_trans (Nat.le_succ _) (by simpa using hsz5))⟩
        rw [HX.out, List.map_append]
        exact hrs5.keep (Nat.le_refl _) (fun q _ ⟨cur, fz, hh⟩ => hgs.block q (Array.getElem?_eq_some_iff.1 hh).1 (fun e => tag_ne hs5 hh (by decide) (by injection e)))
      case measure => simp [intOf]; omega
    · obtain rfl : k = n := by omega
      have HT := Lib.hid (show l.take k = l from List.take_of_length_le (by rw [HN.out]; omega))
      obtain ⟨A3, c3, rfl, hrow⟩ := hrs.rdpn ho hs (by decide) (by decide)
      rw [HT.out] at hrow
      have hrow2 := hrow.other hz (by decide) (by decide) (grown_set6 wr w.heap.size (.int .i64 1) (.int .u8 (a.toNat : Int)) (.slice A3 k c3) (.string ⟨#[]⟩) (.int .u8 (b.toNat : Int)) (.string ⟨#[]⟩))
      have hb6 := below_set6 hbw (Nat.le_refl w.heap.size) (.int .i64 1) (.int .u8 (a.toNat : Int)) (.slice A3 k c3) (.string ⟨#[]⟩) (.int .u8 (b.toNat : Int)) (.string ⟨#[]⟩)
      obtain ⟨d0, d1, d2, d3, d4, d5⟩ := Blk.cells6 hz
      have z0 := hz.frozen 0
      have z1 := hz.frozen 1
      have z2 := hz.frozen 2
      have z3 := hz.frozen 3
      have z4 := hz.frozen 4
      have z5 := hz.frozen 5
      have HNL := Lib.hid (show (l.map fun n => [n]).length = k by rw [List.length_map]; exact HN.out)
      clear hrow hz ho hrs hs
      go_wp2_with fail
      refine bodyPost_ret (v := .agg #[.int .i64 1, .int .u8 (a.toNat : Int), .slice A3 k c3, .string ⟨#[]⟩, .int .u8 (b.toNat : Int), .string ⟨#[]⟩]) (by simp [results, Tryd.results26, go_sem, d0, d1, d2, d3, d4, d5]) rfl ⟨⟨A3, c3, g, ?_, hrow2⟩, hb6⟩
      unfold sqV numS
      dsimp only
      rw [HNL.out]
theorem num_any (a b : UInt8) (A : Option Addr) (n c : Nat) (l : List Int) (w : World) (hn : l.length = n) (hl : n ≤ 4294967296) (hr : Rd w A (is_ l)) :
    Calls Tryd.prog 26 #[.int .u8 (a.toNat : Int), .int .u8 (b.toNat : Int), .slice A n c] w (NumP a b l w) :=
  (num_anyN a b A n c l w hn hl hr).mono fun _ _ ⟨⟨B, d, _, h1, h2⟩, hb⟩ => ⟨⟨B, d, h1, h2.rdp⟩, hb⟩
end Go.Proofs.YtmagokkegadmiaaDoor
namespace Go.Proofs.YtmagokkegadmiaaDoor
open Go.RowKit

set_option maxRecDepth 100000 in
theorem pparam_any (n : Int) (w : World) : Calls Tryd.prog 11 #[.int .i64 n] w fun e w' => e = .returned (.int .i64 (paramN n)) ∧ Below w.heap.size w w' := by
  cases hq : areN n with
  | true =>
    have hr : 0 ≤ n ∧ n ≤ 255 := by simpa [areN] using hq
    have hp : paramN n = n + 1 := by unfold paramN; rw [if_neg (by omega)]
    have hw : IntKind.i64.wrap (n + 1) = n + 1 := by rw [IntKind.wrap_i64]; omega
    have hcall := fun W => are_at hq W
    rw [hp]
    clear hp hr hq
    go_enter Tryd.func11, Tryd.ntmps11
    go_wp2_with fail
    refine (hcall _).mono ?_
    clear hcall
    rintro e w1 ⟨rfl, hb1⟩
    go_wp2_with fail
    go_ret
    exact ⟨rfl, hb1⟩
  | false =>
    have hr : ¬ (0 ≤ n ∧ n ≤ 255) := by simpa [areN] using hq
    have hp : paramN n = 1 := by unfold paramN; rw [if_pos (by omega)]
    have hcall := fun W => are_at hq W
    rw [hp]
    clear hp hr hq
    go_enter Tryd.func11, Tryd.ntmps11
    go_wp2_with fail
    refine (hcall _).mono ?_
    clear hcall
    rintro e w1 ⟨rfl, hb1⟩
    go_wp2_with fail
    go_ret
    exact ⟨rfl, hb1⟩
end Go.Proofs.YtmagokkegadmiaaDoor
