/-
  Layer 15, the landed track, walked: which events may be; the modes (a map of closures).
  Cut out of TrkK.
-/
import Derived.Test.YtjlhhelikiegdaaGreatDoorG24
namespace Go.Proofs.YtjlhhelikiegdaaGreatDoor
open Go.RowKit Go.Maps
def cellB (n : Int) : Bool := decide (1 ≤ n ∧ n ≤ 65535)
set_option maxRecDepth 100000 in
set_option maxHeartbeats 4000000 in
theorem tcell_any (n : Int) (q : Bool) (hq : cellB n = q) (w : World) : Calls Tryz.prog 31 #[.int .i64 n] w fun e w' => e = .returned (.bool q) ∧ Below w.heap.size w w' := by
 have HC := Lib.hid hq
 clear hq
 by_cases a : 1 ≤ n
 ·by_cases b : n ≤ 65535
  ·have HF := Lib.hid (show true = q by rw [← HC.out]; unfold cellB; rw [decide_eq_true ⟨a, b⟩])
   clear HC
   go_enter Tryz.func31, Tryz.ntmps31
   go_wp2_with fail
   go_ret
   exact ⟨ret_bl HF.out, Below.refl _ _⟩
  ·have HF := Lib.hid (show false = q by rw [← HC.out]; unfold cellB; rw [decide_eq_false (by omega)])
   clear HC
   go_enter Tryz.func31, Tryz.ntmps31
   go_wp2_with fail
   go_ret
   exact ⟨ret_bl HF.out, Below.refl _ _⟩
 ·have HF := Lib.hid (show false = q by rw [← HC.out]; unfold cellB; rw [decide_eq_false (by omega)])
  clear HC
  go_enter Tryz.func31, Tryz.ntmps31
  go_wp2_with fail
  go_ret
  exact ⟨ret_bl HF.out, Below.refl _ _⟩
def mbT (btn typ : Int) : Bool := if typ = 1 then decide (1 ≤ btn ∧ btn ≤ 11) else if typ = 3 then heldT btn else decide (typ = 4) && (decide (btn = 0) || heldT btn)
theorem may_split (btn typ x y md : Int) : mayT ⟨btn, typ, x, y, md⟩ = (cellB x && cellB y && decide (0 ≤ md) && decide (md ≤ 255) && mbT btn typ) := by
 unfold mayT cellB mbT
 simp only
 by_cases h : x < 1 ∨ 65535 < x ∨ y < 1 ∨ 65535 < y ∨ md < 0 ∨ 255 < md
 ·rw [if_pos h]
  symm
  rcases h with h | h | h | h | h | h
  ·rw [decide_eq_false (show ¬ (1 ≤ x ∧ x ≤ 65535) by omega)]; simp
  ·rw [decide_eq_false (show ¬ (1 ≤ x ∧ x ≤ 65535) by omega)]; simp
  ·rw [decide_eq_false (show ¬ (1 ≤ y ∧ y ≤ 65535) by omega)]; simp
  ·rw [decide_eq_false (show ¬ (1 ≤ y ∧ y ≤ 65535) by omega)]; simp
  ·rw [decide_eq_false (show ¬ (0 ≤ md) by omega)]; simp
  ·rw [decide_eq_false (show ¬ (md ≤ 255) by omega)]; simp
 ·rw [if_neg h, decide_eq_true (show 1 ≤ x ∧ x ≤ 65535 by omega), decide_eq_true (show 1 ≤ y ∧ y ≤ 65535 by omega), decide_eq_true (show 0 ≤ md by omega), decide_eq_true (show md ≤ 255 by omega)]
  rfl
set_option maxRecDepth 100000 in
set_option maxHeartbeats 16000000 in
theorem tbtn_any (btn typ x y md : Int) (q : Bool) (hq : mbT btn typ = q) (w : World) : Calls Tryz.prog 32 #[.agg #[.int .i64 btn, .int .i64 typ, .int .i64 x, .int .i64 y, .int .i64 md]] w fun e w' => e = .returned (.bool q) ∧ Below w.heap.size w w' := by
 have hB := (Below.refl w.heap.size w).alloc (Nat.le_refl _) (.cells #[.int .i64 btn, .int .i64 typ, .int .i64 x, .int .i64 y, .int .i64 md] 23)
 have k0 := Blk.new w 23 #[.int .i64 btn, .int .i64 typ, .int .i64 x, .int .i64 y, .int .i64 md]
 obtain ⟨a0, a1, a2, a3, a4⟩ := Blk.cells5 k0
 have HC := Lib.hid hq
 clear hq
 have hiv : (btn < 0) ∨ (btn = 0) ∨ (1 ≤ btn ∧ btn ≤ 3) ∨ (4 ≤ btn ∧ btn ≤ 7) ∨ (8 ≤ btn ∧ btn ≤ 11) ∨ (12 ≤ btn) := by omega
 have hty : typ = 1 ∨ typ = 3 ∨ typ = 4 ∨ (typ ≠ 1 ∧ typ ≠ 3 ∧ typ ≠ 4) := by omega
 rcases hiv with h | h | h | h | h | h
 ·have hd : heldT btn = false := by unfold heldT; simp; omega
  have f0 : ¬ 1 ≤ btn := by omega
  have f1 : btn ≤ 3 := by omega
  have f2 : ¬ 8 ≤ btn := by omega
  have f3 : btn ≤ 11 := by omega
  have fz : (btn == 0) = false := by simp; omega
  rcases hty with g | g | g | g
  ·subst g
   have HF := Lib.hid (show false = q by
    rw [← HC.out]; unfold mbT; rw [if_pos rfl]; simp; omega)
   clear HC hd h
   go_enter Tryz.func32, Tryz.ntmps32
   go_wp2_with fail
   go_ret
   exact ⟨ret_bl HF.out, hB⟩
  ·subst g
   have HF := Lib.hid (show false = q by
    rw [← HC.out]; unfold mbT; rw [if_neg (by decide), if_pos rfl]; exact hd.symm)
   clear HC hd h
   go_enter Tryz.func32, Tryz.ntmps32
   go_wp2_with fail
   go_ret
   exact ⟨ret_bl HF.out, hB⟩
  ·subst g
   have HF := Lib.hid (show false = q by
    rw [← HC.out]; unfold mbT; rw [if_neg (by decide), if_neg (by decide), hd]; simp; omega)
   clear HC hd h
   go_enter Tryz.func32, Tryz.ntmps32
   go_wp2_with fail
   go_ret
   exact ⟨ret_bl HF.out, hB⟩
  ·have u1 : (typ == 1) = false := by simp; omega
   have u3 : (typ == 3) = false := by simp; omega
   have u4 : (typ == 4) = false := by simp; omega
   have HF := Lib.hid (show false = q by
    rw [← HC.out]; unfold mbT; rw [if_neg g.1, if_neg g.2.1, decide_eq_false g.2.2]; rfl)
   clear HC hd g h
   go_enter Tryz.func32, Tryz.ntmps32
   go_wp2_with fail
   go_ret
   exact ⟨ret_bl HF.out, hB⟩
 ·have hd : heldT btn = false := by unfold heldT; simp; omega
  subst h
  rcases hty with g | g | g | g
  ·subst g
   have HF := Lib.hid (show false = q by
    rw [← HC.out]; unfold mbT; rw [if_pos rfl]; simp)
   clear HC hd
   go_enter Tryz.func32, Tryz.ntmps32
   go_wp2_with fail
   go_ret
   exact ⟨ret_bl HF.out, hB⟩
  ·subst g
   have HF := Lib.hid (show false = q by
    rw [← HC.out]; unfold mbT; rw [if_neg (by decide), if_pos rfl]; exact hd.symm)
   clear HC hd
   go_enter Tryz.func32, Tryz.ntmps32
   go_wp2_with fail
   go_ret
   exact ⟨ret_bl HF.out, hB⟩
  ·subst g
   have HF := Lib.hid (show true = q by
    rw [← HC.out]; unfold mbT; rw [if_neg (by decide), if_neg (by decide), hd]; simp)
   clear HC hd
   go_enter Tryz.func32, Tryz.ntmps32
   go_wp2_with fail
   go_ret
   exact ⟨ret_bl HF.out, hB⟩
  ·have u1 : (typ == 1) = false := by simp; omega
   have u3 : (typ == 3) = false := by simp; omega
   have u4 : (typ == 4) = false := by simp; omega
   have HF := Lib.hid (show false = q by
    rw [← HC.out]; unfold mbT; rw [if_neg g.1, if_neg g.2.1, decide_eq_false g.2.2]; rfl)
   clear HC hd g
   go_enter Tryz.func32, Tryz.ntmps32
   go_wp2_with fail
   go_ret
   exact ⟨ret_bl HF.out, hB⟩
 ·have hd : heldT btn = true := by unfold heldT; simp; omega
  have f0 : 1 ≤ btn := by omega
  have f1 : btn ≤ 3 := by omega
  have f2 : btn ≤ 11 := by omega
  have fz : (btn == 0) = false := by simp; omega
  rcases hty with g | g | g | g
  ·subst g
   have HF := Lib.hid (show true = q by
    rw [← HC.out]; unfold mbT; rw [if_pos rfl]; simp; omega)
   clear HC hd h
   go_enter Tryz.func32, Tryz.ntmps32
   go_wp2_with fail
   go_ret
   exact ⟨ret_bl HF.out, hB⟩
  ·subst g
   have HF := Lib.hid (show true = q by
    rw [← HC.out]; unfold mbT; rw [if_neg (by decide), if_pos rfl]; exact hd.symm)
   clear HC hd h
   go_enter Tryz.func32, Tryz.ntmps32
   go_wp2_with fail
   go_ret
   exact ⟨ret_bl HF.out, hB⟩
  ·subst g
   have HF := Lib.hid (show true = q by
    rw [← HC.out]; unfold mbT; rw [if_neg (by decide), if_neg (by decide), hd]; simp)
   clear HC hd h
   go_enter Tryz.func32, Tryz.ntmps32
   go_wp2_with fail
   go_ret
   exact ⟨ret_bl HF.out, hB⟩
  ·have u1 : (typ == 1) = false := by simp; omega
   have u3 : (typ == 3) = false := by simp; omega
   have u4 : (typ == 4) = false := by simp; omega
   have HF := Lib.hid (show false = q by
    rw [← HC.out]; unfold mbT; rw [if_neg g.1, if_neg g.2.1, decide_eq_false g.2.2]; rfl)
   clear HC hd g h
   go_enter Tryz.func32, Tryz.ntmps32
   go_wp2_with fail
   go_ret
   exact ⟨ret_bl HF.out, hB⟩
 ·have hd : heldT btn = false := by unfold heldT; simp; omega
  have f0 : 1 ≤ btn := by omega
  have f1 : ¬ btn ≤ 3 := by omega
  have f2 : ¬ 8 ≤ btn := by omega
  have f3 : btn ≤ 11 := by omega
  have fz : (btn == 0) = false := by simp; omega
  rcases hty with g | g | g | g
  ·subst g
   have HF := Lib.hid (show true = q by
    rw [← HC.out]; unfold mbT; rw [if_pos rfl]; simp; omega)
   clear HC hd h
   go_enter Tryz.func32, Tryz.ntmps32
   go_wp2_with fail
   go_ret
   exact ⟨ret_bl HF.out, hB⟩
  ·subst g
   have HF := Lib.hid (show false = q by
    rw [← HC.out]; unfold mbT; rw [if_neg (by decide), if_pos rfl]; exact hd.symm)
   clear HC hd h
   go_enter Tryz.func32, Tryz.ntmps32
   go_wp2_with fail
   go_ret
   exact ⟨ret_bl HF.out, hB⟩
  ·subst g
   have HF := Lib.hid (show false = q by
    rw [← HC.out]; unfold mbT; rw [if_neg (by decide), if_neg (by decide), hd]; simp; omega)
   clear HC hd h
   go_enter Tryz.func32, Tryz.ntmps32
   go_wp2_with fail
   go_ret
   exact ⟨ret_bl HF.out, hB⟩
  ·have u1 : (typ == 1) = false := by simp; omega
   have u3 : (typ == 3) = false := by simp; omega
   have u4 : (typ == 4) = false := by simp; omega
   have HF := Lib.hid (show false = q by
    rw [← HC.out]; unfold mbT; rw [if_neg g.1, if_neg g.2.1, decide_eq_false g.2.2]; rfl)
   clear HC hd g h
   go_enter Tryz.func32, Tryz.ntmps32
   go_wp2_with fail
   go_ret
   exact ⟨ret_bl HF.out, hB⟩
 ·have hd : heldT btn = true := by unfold heldT; simp; omega
  have f0 : 1 ≤ btn := by omega
  have f1 : ¬ btn ≤ 3 := by omega
  have f2 : 8 ≤ btn := by omega
  have f3 : btn ≤ 11 := by omega
  have fz : (btn == 0) = false := by simp; omega
  rcases hty with g | g | g | g
  ·subst g
   have HF := Lib.hid (show true = q by
    rw [← HC.out]; unfold mbT; rw [if_pos rfl]; simp; omega)
   clear HC hd h
   go_enter Tryz.func32, Tryz.ntmps32
   go_wp2_with fail
   go_ret
   exact ⟨ret_bl HF.out, hB⟩
  ·subst g
   have HF := Lib.hid (show true = q by
    rw [← HC.out]; unfold mbT; rw [if_neg (by decide), if_pos rfl]; exact hd.symm)
   clear HC hd h
   go_enter Tryz.func32, Tryz.ntmps32
   go_wp2_with fail
   go_ret
   exact ⟨ret_bl HF.out, hB⟩
  ·subst g
   have HF := Lib.hid (show true = q by
    rw [← HC.out]; unfold mbT; rw [if_neg (by decide), if_neg (by decide), hd]; simp)
   clear HC hd h
   go_enter Tryz.func32, Tryz.ntmps32
   go_wp2_with fail
   go_ret
   exact ⟨ret_bl HF.out, hB⟩
  ·have u1 : (typ == 1) = false := by simp; omega
   have u3 : (typ == 3) = false := by simp; omega
   have u4 : (typ == 4) = false := by simp; omega
   have HF := Lib.hid (show false = q by
    rw [← HC.out]; unfold mbT; rw [if_neg g.1, if_neg g.2.1, decide_eq_false g.2.2]; rfl)
   clear HC hd g h
   go_enter Tryz.func32, Tryz.ntmps32
   go_wp2_with fail
   go_ret
   exact ⟨ret_bl HF.out, hB⟩
 ·have hd : heldT btn = false := by unfold heldT; simp; omega
  have f0 : 1 ≤ btn := by omega
  have f1 : ¬ btn ≤ 3 := by omega
  have f2 : 8 ≤ btn := by omega
  have f3 : ¬ btn ≤ 11 := by omega
  have fz : (btn == 0) = false := by simp; omega
  rcases hty with g | g | g | g
  ·subst g
   have HF := Lib.hid (show false = q by
    rw [← HC.out]; unfold mbT; rw [if_pos rfl]; simp; omega)
   clear HC hd h
   go_enter Tryz.func32, Tryz.ntmps32
   go_wp2_with fail
   go_ret
   exact ⟨ret_bl HF.out, hB⟩
  ·subst g
   have HF := Lib.hid (show false = q by
    rw [← HC.out]; unfold mbT; rw [if_neg (by decide), if_pos rfl]; exact hd.symm)
   clear HC hd h
   go_enter Tryz.func32, Tryz.ntmps32
   go_wp2_with fail
   go_ret
   exact ⟨ret_bl HF.out, hB⟩
  ·subst g
   have HF := Lib.hid (show false = q by
    rw [← HC.out]; unfold mbT; rw [if_neg (by decide), if_neg (by decide), hd]; simp; omega)
   clear HC hd h
   go_enter Tryz.func32, Tryz.ntmps32
   go_wp2_with fail
   go_ret
   exact ⟨ret_bl HF.out, hB⟩
  ·have u1 : (typ == 1) = false := by simp; omega
   have u3 : (typ == 3) = false := by simp; omega
   have u4 : (typ == 4) = false := by simp; omega
   have HF := Lib.hid (show false = q by
    rw [← HC.out]; unfold mbT; rw [if_neg g.1, if_neg g.2.1, decide_eq_false g.2.2]; rfl)
   clear HC hd g h
   go_enter Tryz.func32, Tryz.ntmps32
   go_wp2_with fail
   go_ret
   exact ⟨ret_bl HF.out, hB⟩
set_option maxRecDepth 100000 in
set_option maxHeartbeats 16000000 in
theorem tmay_any (e : Ms) (w : World) : Calls Tryz.prog 12 #[msV e] w fun x w' => x = .returned (.bool (mayT e)) ∧ Below w.heap.size w w' := by
 obtain ⟨btn, typ, x, y, md⟩ := e
 rw [may_split, msV]
 simp only
 obtain ⟨qx, hx⟩ : ∃ q, cellB x = q := ⟨_, rfl⟩
 obtain ⟨qy, hy⟩ : ∃ q, cellB y = q := ⟨_, rfl⟩
 obtain ⟨qb, hb⟩ : ∃ q, mbT btn typ = q := ⟨_, rfl⟩
 have HX : Hid (∀ W, Calls Tryz.prog 31 #[.int .i64 x] W fun e w' => e = .returned (.bool qx) ∧ Below W.heap.size W w') := Lib.hid fun W => tcell_any x qx hx W
 have HY : Hid (∀ W, Calls Tryz.prog 31 #[.int .i64 y] W fun e w' => e = .returned (.bool qy) ∧ Below W.heap.size W w') := Lib.hid fun W => tcell_any y qy hy W
 have HM : Hid (∀ W, Calls Tryz.prog 32 #[.agg #[.int .i64 btn, .int .i64 typ, .int .i64 x, .int .i64 y, .int .i64 md]] W fun e w' => e = .returned (.bool qb) ∧ Below W.heap.size W w') := Lib.hid fun W => tbtn_any btn typ x y md qb hb W
 obtain ⟨R, hR⟩ : ∃ R, (qx && qy && decide (0 ≤ md) && decide (md ≤ 255) && qb) = R := ⟨_, rfl⟩
 rw [hx, hy, hb, hR]
 have HC := Lib.hid hR
 clear hx hy hb hR
 have hB := (Below.refl w.heap.size w).alloc (Nat.le_refl _) (.cells #[.int .i64 btn, .int .i64 typ, .int .i64 x, .int .i64 y, .int .i64 md] 23)
 have k0 := Blk.new w 23 #[.int .i64 btn, .int .i64 typ, .int .i64 x, .int .i64 y, .int .i64 md]
 obtain ⟨a0, a1, a2, a3, a4⟩ := Blk.cells5 k0
 cases qx with
 | false =>
   have HF := Lib.hid (show false = R by rw [← HC.out]; rfl)
   clear HC HY HM
   go_enter Tryz.func12, Tryz.ntmps12
   go_wp2_with fail
   refine (HX.out _).mono ?_
   rintro z w1 ⟨rfl, hb1⟩
   go_wp2_with fail
   go_ret
   exact ⟨ret_bl HF.out, hB.trans (hb1.mono hB.size)⟩
 | true =>
 have HC := Lib.hid (show (qy && decide (0 ≤ md) && decide (md ≤ 255) && qb) = R from by rw [← HC.out, Bool.true_and])
 go_enter Tryz.func12, Tryz.ntmps12
 go_wp2_with fail
 refine (HX.out _).mono ?_
 rintro z w1 ⟨rfl, hb1⟩
 have hB1 := hB.trans (hb1.mono hB.size)
 have k1 := k0.below hb1 k0.lt
 clear HX hB hb1 k0 a0 a1 a2 a3 a4
 obtain ⟨a0, a1, a2, a3, a4⟩ := Blk.cells5 k1
 cases qy with
 | false =>
   have HF := Lib.hid (show false = R by rw [← HC.out]; rfl)
   clear HC HM
   go_wp2_with fail
   refine (HY.out _).mono ?_
   rintro z w2 ⟨rfl, hb2⟩
   go_wp2_with fail
   go_ret
   exact ⟨ret_bl HF.out, hB1.trans (hb2.mono hB1.size)⟩
 | true =>
 have HC2 := Lib.hid (show (decide (0 ≤ md) && decide (md ≤ 255) && qb) = R from by rw [← HC.out, Bool.true_and])
 go_wp2_with fail
 refine (HY.out _).mono ?_
 rintro z w2 ⟨rfl, hb2⟩
 have hB2 := hB1.trans (hb2.mono hB1.size)
 have k2 := k1.below hb2 k1.lt
 clear HY hB1 hb2 k1 a0 a1 a2 a3 a4 HC
 obtain ⟨a0, a1, a2, a3, a4⟩ := Blk.cells5 k2
 by_cases m0 : 0 ≤ md
 ·by_cases m1 : md ≤ 255
  ·have HF := Lib.hid (show qb = R by rw [← HC2.out, decide_eq_true m0, decide_eq_true m1]; rfl)
   clear HC2
   go_wp2_with fail
   refine (HM.out _).mono ?_
   rintro z w3 ⟨rfl, hb3⟩
   go_wp2_with fail
   go_ret
   exact ⟨ret_bl HF.out, hB2.trans (hb3.mono hB2.size)⟩
  ·have HF := Lib.hid (show false = R by rw [← HC2.out, decide_eq_false m1]; simp)
   clear HC2 HM
   go_wp2_with fail
   go_ret
   exact ⟨ret_bl HF.out, hB2⟩
 ·have HF := Lib.hid (show false = R by rw [← HC2.out, decide_eq_false m0]; simp)
  clear HC2 HM
  go_wp2_with fail
  go_ret
  exact ⟨ret_bl HF.out, hB2⟩
end Go.Proofs.YtjlhhelikiegdaaGreatDoor
