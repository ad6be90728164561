/-
  Layer 15, the landed track, walked: which events may be; the modes (a map of closures).
-/
import Derived.Test.YtbdpjhlfaelgpaaTrkW
import Derived.Test.YtbdpjhlfaelgpaaIns
import Derived.Laws.EntriesVeiled
namespace Go.Proofs.Ytbdpjhlfaelgpaa
open Go.RowKit Go.Maps

def cellB (n : Int) : Bool := decide (1 ≤ n ∧ n ≤ 65535)
set_option maxRecDepth 100000 in
set_option maxHeartbeats 4000000 in
theorem tcell_any (n : Int) (q : Bool) (hq : cellB n = q) (w : World) : Calls Try.prog 16 #[.int .i64 n] w fun e w' => e = .returned (.bool q) ∧ Below w.heap.size w w' := by
  have HC := Lib.hid hq
  clear hq
  by_cases a : 1 ≤ n
  · by_cases b : n ≤ 65535
    · have HF := Lib.hid (show true = q by rw [← HC.out]; unfold cellB; rw [decide_eq_true ⟨a, b⟩])
      clear HC
      go_enter Try.func16, Try.ntmps16
      go_wp2_with fail
      go_ret
      exact ⟨ret_bl HF.out, Below.refl _ _⟩
    · have HF := Lib.hid (show false = q by rw [← HC.out]; unfold cellB; rw [decide_eq_false (by omega)])
      clear HC
      go_enter Try.func16, Try.ntmps16
      go_wp2_with fail
      go_ret
      exact ⟨ret_bl HF.out, Below.refl _ _⟩
  · have HF := Lib.hid (show false = q by rw [← HC.out]; unfold cellB; rw [decide_eq_false (by omega)])
    clear HC
    go_enter Try.func16, Try.ntmps16
    go_wp2_with fail
    go_ret
    exact ⟨ret_bl HF.out, Below.refl _ _⟩
def mbT (btn typ : Int) : Bool := if typ = 1 then decide (1 ≤ btn ∧ btn ≤ 11) else if typ = 3 then heldT btn else decide (typ = 4) && (decide (btn = 0) || heldT btn)
theorem may_split (btn typ x y md : Int) : mayT ⟨btn, typ, x, y, md⟩ = (cellB x && cellB y && decide (0 ≤ md) && decide (md ≤ 255) && mbT btn typ) := by
  unfold mayT cellB mbT
  simp only
  by_cases h : x < 1 ∨ 65535 < x ∨ y < 1 ∨ 65535 < y ∨ md < 0 ∨ 255 < md
  · rw [if_pos h]
    symm
    rcases h with h | h | h | h | h | h
    · rw [decide_eq_false (show ¬ (1 ≤ x ∧ x ≤ 65535) by omega)]; simp
    · rw [decide_eq_false (show ¬ (1 ≤ x ∧ x ≤ 65535) by omega)]; simp
    · rw [decide_eq_false (show ¬ (1 ≤ y ∧ y ≤ 65535) by omega)]; simp
    · rw [decide_eq_false (show ¬ (1 ≤ y ∧ y ≤ 65535) by omega)]; simp
    · rw [decide_eq_false (show ¬ (0 ≤ md) by omega)]; simp
    · rw [decide_eq_false (show ¬ (md ≤ 255) by omega)]; simp
  · rw [if_neg h, decide_eq_true (show 1 ≤ x ∧ x ≤ 65535 by omega), decide_eq_true (show 1 ≤ y ∧ y ≤ 65535 by omega), decide_eq_true (show 0 ≤ md by omega), decide_eq_true (show md ≤ 255 by omega)]
    rfl
set_option maxRecDepth 100000 in
set_option maxHeartbeats 16000000 in
theorem tbtn_any (btn typ x y md : Int) (q : Bool) (hq : mbT btn typ = q) (w : World) : Calls Try.prog 17 #[.agg #[.int .i64 btn, .int .i64 typ, .int .i64 x, .int .i64 y, .int .i64 md]] w fun e w' => e = .returned (.bool q) ∧ Below w.heap.size w w' := by
  have hB := (Below.refl w.heap.size w).alloc (Nat.le_refl _) (.cells #[.int .i64 btn, .int .i64 typ, .int .i64 x, .int .i64 y, .int .i64 md] 25)
  have k0 := Blk.new w 25 #[.int .i64 btn, .int .i64 typ, .int .i64 x, .int .i64 y, .int .i64 md]
  obtain ⟨a0, a1, a2, a3, a4⟩ := Blk.cells5 k0
  have HC := Lib.hid hq
  clear hq
  have hiv : (btn < 0) ∨ (btn = 0) ∨ (1 ≤ btn ∧ btn ≤ 3) ∨ (4 ≤ btn ∧ btn ≤ 7) ∨ (8 ≤ btn ∧ btn ≤ 11) ∨ (12 ≤ btn) := by omega
  have hty : typ = 1 ∨ typ = 3 ∨ typ = 4 ∨ (typ ≠ 1 ∧ typ ≠ 3 ∧ typ ≠ 4) := by omega
  rcases hiv with h | h | h | h | h | h
  · have hd : heldT btn = false := by unfold heldT; simp; omega
    have f0 : ¬ 1 ≤ btn := by omega
    have f1 : btn ≤ 3 := by omega
    have f2 : ¬ 8 ≤ btn := by omega
    have f3 : btn ≤ 11 := by omega
    have fz : (btn == 0) = false := by simp; omega
    rcases hty with g | g | g | g
    · subst g
      have HF := Lib.hid (show false = q by
        rw [← HC.out]; unfold mbT; rw [if_pos rfl]; simp; omega)
      clear HC hd h
      go_enter Try.func17, Try.ntmps17
      go_wp2_with fail
      go_ret
      exact ⟨ret_bl HF.out, hB⟩
    · subst g
      have HF := Lib.hid (show false = q by
        rw [← HC.out]; unfold mbT; rw [if_neg (by decide), if_pos rfl]; exact hd.symm)
      clear HC hd h
      go_enter Try.func17, Try.ntmps17
      go_wp2_with fail
      go_ret
      exact ⟨ret_bl HF.out, hB⟩
    · subst g
      have HF := Lib.hid (show false = q by
        rw [← HC.out]; unfold mbT; rw [if_neg (by decide), if_neg (by decide), hd]; simp; omega)
      clear HC hd h
      go_enter Try.func17, Try.ntmps17
      go_wp2_with fail
      go_ret
      exact ⟨ret_bl HF.out, hB⟩
    · have u1 : (typ == 1) = false := by simp; omega
      have u3 : (typ == 3) = false := by simp; omega
      have u4 : (typ == 4) = false := by simp; omega
      have HF := Lib.hid (show false = q by
        rw [← HC.out]; unfold mbT; rw [if_neg g.1, if_neg g.2.1, decide_eq_false g.2.2]; rfl)
      clear HC hd g h
      go_enter Try.func17, Try.ntmps17
      go_wp2_with fail
      go_ret
      exact ⟨ret_bl HF.out, hB⟩
  · have hd : heldT btn = false := by unfold heldT; simp; omega
    subst h
    rcases hty with g | g | g | g
    · subst g
      have HF := Lib.hid (show false = q by
        rw [← HC.out]; unfold mbT; rw [if_pos rfl]; simp)
      clear HC hd
      go_enter Try.func17, Try.ntmps17
      go_wp2_with fail
      go_ret
      exact ⟨ret_bl HF.out, hB⟩
    · subst g
      have HF := Lib.hid (show false = q by
        rw [← HC.out]; unfold mbT; rw [if_neg (by decide), if_pos rfl]; exact hd.symm)
      clear HC hd
      go_enter Try.func17, Try.ntmps17
      go_wp2_with fail
      go_ret
      exact ⟨ret_bl HF.out, hB⟩
    · subst g
      have HF := Lib.hid (show true = q by
        rw [← HC.out]; unfold mbT; rw [if_neg (by decide), if_neg (by decide), hd]; simp)
      clear HC hd
      go_enter Try.func17, Try.ntmps17
      go_wp2_with fail
      go_ret
      exact ⟨ret_bl HF.out, hB⟩
    · have u1 : (typ == 1) = false := by simp; omega
      have u3 : (typ == 3) = false := by simp; omega
      have u4 : (typ == 4) = false := by simp; omega
      have HF := Lib.hid (show false = q by
        rw [← HC.out]; unfold mbT; rw [if_neg g.1, if_neg g.2.1, decide_eq_false g.2.2]; rfl)
      clear HC hd g
      go_enter Try.func17, Try.ntmps17
      go_wp2_with fail
      go_ret
      exact ⟨ret_bl HF.out, hB⟩
  · have hd : heldT btn = true := by unfold heldT; simp; omega
    have f0 : 1 ≤ btn := by omega
    have f1 : btn ≤ 3 := by omega
    have f2 : btn ≤ 11 := by omega
    have fz : (btn == 0) = false := by simp; omega
    rcases hty with g | g | g | g
    · subst g
      have HF := Lib.hid (show true = q by
        rw [← HC.out]; unfold mbT; rw [if_pos rfl]; simp; omega)
      clear HC hd h
      go_enter Try.func17, Try.ntmps17
      go_wp2_with fail
      go_ret
      exact ⟨ret_bl HF.out, hB⟩
    · subst g
      have HF := Lib.hid (show true = q by
        rw [← HC.out]; unfold mbT; rw [if_neg (by decide), if_pos rfl]; exact hd.symm)
      clear HC hd h
      go_enter Try.func17, Try.ntmps17
      go_wp2_with fail
      go_ret
      exact ⟨ret_bl HF.out, hB⟩
    · subst g
      have HF := Lib.hid (show true = q by
        rw [← HC.out]; unfold mbT; rw [if_neg (by decide), if_neg (by decide), hd]; simp)
      clear HC hd h
      go_enter Try.func17, Try.ntmps17
      go_wp2_with fail
      go_ret
      exact ⟨ret_bl HF.out, hB⟩
    · have u1 : (typ == 1) = false := by simp; omega
      have u3 : (typ == 3) = false := by simp; omega
      have u4 : (typ == 4) = false := by simp; omega
      have HF := Lib.hid (show false = q by
        rw [← HC.out]; unfold mbT; rw [if_neg g.1, if_neg g.2.1, decide_eq_false g.2.2]; rfl)
      clear HC hd g h
      go_enter Try.func17, Try.ntmps17
      go_wp2_with fail
      go_ret
      exact ⟨ret_bl HF.out, hB⟩
  · have hd : heldT btn = false := by unfold heldT; simp; omega
    have f0 : 1 ≤ btn := by omega
    have f1 : ¬ btn ≤ 3 := by omega
    have f2 : ¬ 8 ≤ btn := by omega
    have f3 : btn ≤ 11 := by omega
    have fz : (btn == 0) = false := by simp; omega
    rcases hty with g | g | g | g
    · subst g
      have HF := Lib.hid (show true = q by
        rw [← HC.out]; unfold mbT; rw [if_pos rfl]; simp; omega)
      clear HC hd h
      go_enter Try.func17, Try.ntmps17
      go_wp2_with fail
      go_ret
      exact ⟨ret_bl HF.out, hB⟩
    · subst g
      have HF := Lib.hid (show false = q by
        rw [← HC.out]; unfold mbT; rw [if_neg (by decide), if_pos rfl]; exact hd.symm)
      clear HC hd h
      go_enter Try.func17, Try.ntmps17
      go_wp2_with fail
      go_ret
      exact ⟨ret_bl HF.out, hB⟩
    · subst g
      have HF := Lib.hid (show false = q by
        rw [← HC.out]; unfold mbT; rw [if_neg (by decide), if_neg (by decide), hd]; simp; omega)
      clear HC hd h
      go_enter Try.func17, Try.ntmps17
      go_wp2_with fail
      go_ret
      exact ⟨ret_bl HF.out, hB⟩
    · have u1 : (typ == 1) = false := by simp; omega
      have u3 : (typ == 3) = false := by simp; omega
      have u4 : (typ == 4) = false := by simp; omega
      have HF := Lib.hid (show false = q by
        rw [← HC.out]; unfold mbT; rw [if_neg g.1, if_neg g.2.1, decide_eq_false g.2.2]; rfl)
      clear HC hd g h
      go_enter Try.func17, Try.ntmps17
      go_wp2_with fail
      go_ret
      exact ⟨ret_bl HF.out, hB⟩
  · have hd : heldT btn = true := by unfold heldT; simp; omega
    have f0 : 1 ≤ btn := by omega
    have f1 : ¬ btn ≤ 3 := by omega
    have f2 : 8 ≤ btn := by omega
    have f3 : btn ≤ 11 := by omega
    have fz : (btn == 0) = false := by simp; omega
    rcases hty with g | g | g | g
    · subst g
      have HF := Lib.hid (show true = q by
        rw [← HC.out]; unfold mbT; rw [if_pos rfl]; simp; omega)
      clear HC hd h
      go_enter Try.func17, Try.ntmps17
      go_wp2_with fail
      go_ret
      exact ⟨ret_bl HF.out, hB⟩
    · subst g
      have HF := Lib.hid (show true = q by
        rw [← HC.out]; unfold mbT; rw [if_neg (by decide), if_pos rfl]; exact hd.symm)
      clear HC hd h
      go_enter Try.func17, Try.ntmps17
      go_wp2_with fail
      go_ret
      exact ⟨ret_bl HF.out, hB⟩
    · subst g
      have HF := Lib.hid (show true = q by
        rw [← HC.out]; unfold mbT; rw [if_neg (by decide), if_neg (by decide), hd]; simp)
      clear HC hd h
      go_enter Try.func17, Try.ntmps17
      go_wp2_with fail
      go_ret
      exact ⟨ret_bl HF.out, hB⟩
    · have u1 : (typ == 1) = false := by simp; omega
      have u3 : (typ == 3) = false := by simp; omega
      have u4 : (typ == 4) = false := by simp; omega
      have HF := Lib.hid (show false = q by
        rw [← HC.out]; unfold mbT; rw [if_neg g.1, if_neg g.2.1, decide_eq_false g.2.2]; rfl)
      clear HC hd g h
      go_enter Try.func17, Try.ntmps17
      go_wp2_with fail
      go_ret
      exact ⟨ret_bl HF.out, hB⟩
  · have hd : heldT btn = false := by unfold heldT; simp; omega
    have f0 : 1 ≤ btn := by omega
    have f1 : ¬ btn ≤ 3 := by omega
    have f2 : 8 ≤ btn := by omega
    have f3 : ¬ btn ≤ 11 := by omega
    have fz : (btn == 0) = false := by simp; omega
    rcases hty with g | g | g | g
    · subst g
      have HF := Lib.hid (show false = q by
        rw [← HC.out]; unfold mbT; rw [if_pos rfl]; simp; omega)
      clear HC hd h
      go_enter Try.func17, Try.ntmps17
      go_wp2_with fail
      go_ret
      exact ⟨ret_bl HF.out, hB⟩
    · subst g
      have HF := Lib.hid (show false = q by
        rw [← HC.out]; unfold mbT; rw [if_neg (by decide), if_pos rfl]; exact hd.symm)
      clear HC hd h
      go_enter Try.func17, Try.ntmps17
      go_wp2_with fail
      go_ret
      exact ⟨ret_bl HF.out, hB⟩
    · subst g
      have HF := Lib.hid (show false = q by
        rw [← HC.out]; unfold mbT; rw [if_neg (by decide), if_neg (by decide), hd]; simp; omega)
      clear HC hd h
      go_enter Try.func17, Try.ntmps17
      go_wp2_with fail
      go_ret
      exact ⟨ret_bl HF.out, hB⟩
    · have u1 : (typ == 1) = false := by simp; omega
      have u3 : (typ == 3) = false := by simp; omega
      have u4 : (typ == 4) = false := by simp; omega
      have HF := Lib.hid (show false = q by
        rw [← HC.out]; unfold mbT; rw [if_neg g.1, if_neg g.2.1, decide_eq_false g.2.2]; rfl)
      clear HC hd g h
      go_enter Try.func17, Try.ntmps17
      go_wp2_with fail
      go_ret
      exact ⟨ret_bl HF.out, hB⟩
set_option maxRecDepth 100000 in
set_option maxHeartbeats 16000000 in
theorem tmay_any (e : Ms) (w : World) : Calls Try.prog 12 #[msV e] w fun x w' => x = .returned (.bool (mayT e)) ∧ Below w.heap.size w w' := by
  obtain ⟨btn, typ, x, y, md⟩ := e
  rw [may_split, msV]
  simp only
  obtain ⟨qx, hx⟩ : ∃ q, cellB x = q := ⟨_, rfl⟩
  obtain ⟨qy, hy⟩ : ∃ q, cellB y = q := ⟨_, rfl⟩
  obtain ⟨qb, hb⟩ : ∃ q, mbT btn typ = q := ⟨_, rfl⟩
  have HX : Hid (∀ W, Calls Try.prog 16 #[.int .i64 x] W fun e w' => e = .returned (.bool qx) ∧ Below W.heap.size W w') := Lib.hid fun W => tcell_any x qx hx W
  have HY : Hid (∀ W, Calls Try.prog 16 #[.int .i64 y] W fun e w' => e = .returned (.bool qy) ∧ Below W.heap.size W w') := Lib.hid fun W => tcell_any y qy hy W
  have HM : Hid (∀ W, Calls Try.prog 17 #[.agg #[.int .i64 btn, .int .i64 typ, .int .i64 x, .int .i64 y, .int .i64 md]] W fun e w' => e = .returned (.bool qb) ∧ Below W.heap.size W w') := Lib.hid fun W => tbtn_any btn typ x y md qb hb W
  obtain ⟨R, hR⟩ : ∃ R, (qx && qy && decide (0 ≤ md) && decide (md ≤ 255) && qb) = R := ⟨_, rfl⟩
  rw [hx, hy, hb, hR]
  have HC := Lib.hid hR
  clear hx hy hb hR
  have hB := (Below.refl w.heap.size w).alloc (Nat.le_refl _) (.cells #[.int .i64 btn, .int .i64 typ, .int .i64 x, .int .i64 y, .int .i64 md] 25)
  have k0 := Blk.new w 25 #[.int .i64 btn, .int .i64 typ, .int .i64 x, .int .i64 y, .int .i64 md]
  obtain ⟨a0, a1, a2, a3, a4⟩ := Blk.cells5 k0
  cases qx with
  | false =>
    have HF := Lib.hid (show false = R by rw [← HC.out]; rfl)
    clear HC HY HM
    go_enter Try.func12, Try.ntmps12
    go_wp2_with fail
    refine (HX.out _).mono ?_
    rintro z w1 ⟨rfl, hb1⟩
    go_wp2_with fail
    go_ret
    exact ⟨ret_bl HF.out, hB.trans (hb1.mono hB.size)⟩
  | true =>
  have HC := Lib.hid (show (qy && decide (0 ≤ md) && decide (md ≤ 255) && qb) = R from by rw [← HC.out, Bool.true_and])
  go_enter Try.func12, Try.ntmps12
  go_wp2_with fail
  refine (HX.out _).mono ?_
  rintro z w1 ⟨rfl, hb1⟩
  have hB1 := hB.trans (hb1.mono hB.size)
  have k1 := k0.below hb1 k0.lt
  clear HX hB hb1 k0 a0 a1 a2 a3 a4
  obtain ⟨a0, a1, a2, a3, a4⟩ := Blk.cells5 k1
  cases qy with
  | false =>
    have HF := Lib.hid (show false = R by rw [← HC.out]; rfl)
    clear HC HM
    go_wp2_with fail
    refine (HY.out _).mono ?_
    rintro z w2 ⟨rfl, hb2⟩
    go_wp2_with fail
    go_ret
    exact ⟨ret_bl HF.out, hB1.trans (hb2.mono hB1.size)⟩
  | true =>
  have HC2 := Lib.hid (show (decide (0 ≤ md) && decide (md ≤ 255) && qb) = R from by rw [← HC.out, Bool.true_and])
  go_wp2_with fail
  refine (HY.out _).mono ?_
  rintro z w2 ⟨rfl, hb2⟩
  have hB2 := hB1.trans (hb2.mono hB1.size)
  have k2 := k1.below hb2 k1.lt
  clear HY hB1 hb2 k1 a0 a1 a2 a3 a4 HC
  obtain ⟨a0, a1, a2, a3, a4⟩ := Blk.cells5 k2
  by_cases m0 : 0 ≤ md
  · by_cases m1 : md ≤ 255
    · have HF := Lib.hid (show qb = R by rw [← HC2.out, decide_eq_true m0, decide_eq_true m1]; rfl)
      clear HC2
      go_wp2_with fail
      refine (HM.out _).mono ?_
      rintro z w3 ⟨rfl, hb3⟩
      go_wp2_with fail
      go_ret
      exact ⟨ret_bl HF.out, hB2.trans (hb3.mono hB2.size)⟩
    · have HF := Lib.hid (show false = R by rw [← HC2.out, decide_eq_false m1]; simp)
      clear HC2 HM
      go_wp2_with fail
      go_ret
      exact ⟨ret_bl HF.out, hB2⟩
  · have HF := Lib.hid (show false = R by rw [← HC2.out, decide_eq_false m0]; simp)
    clear HC2 HM
    go_wp2_with fail
    go_ret
    exact ⟨ret_bl HF.out, hB2⟩
set_option maxRecDepth 100000 in
set_option maxHeartbeats 4000000 in
theorem tclk_any (btn typ x y md : Int) (q : Bool) (hq : (typ != 4) = q) (w : World) : Calls Try.prog 19 #[.agg #[.int .i64 btn, .int .i64 typ, .int .i64 x, .int .i64 y, .int .i64 md]] w fun e w' => e = .returned (.bool q) ∧ Below w.heap.size w w' := by
  have hB := (Below.refl w.heap.size w).alloc (Nat.le_refl _) (.cells #[.int .i64 btn, .int .i64 typ, .int .i64 x, .int .i64 y, .int .i64 md] 25)
  have k0 := Blk.new w 25 #[.int .i64 btn, .int .i64 typ, .int .i64 x, .int .i64 y, .int .i64 md]
  obtain ⟨a0, a1, a2, a3, a4⟩ := Blk.cells5 k0
  have HC := Lib.hid hq
  clear hq
  go_enter Try.func19, Try.ntmps19
  go_wp2_with fail
  go_ret
  exact ⟨ret_bl HC.out, hB⟩
set_option maxRecDepth 100000 in
set_option maxHeartbeats 4000000 in
theorem tnine_any (btn typ x y md : Int) (q : Bool) (hq : ((typ == 1) && decide (btn ≤ 3)) = q) (w : World) : Calls Try.prog 20 #[.agg #[.int .i64 btn, .int .i64 typ, .int .i64 x, .int .i64 y, .int .i64 md]] w fun e w' => e = .returned (.bool q) ∧ Below w.heap.size w w' := by
  have hB := (Below.refl w.heap.size w).alloc (Nat.le_refl _) (.cells #[.int .i64 btn, .int .i64 typ, .int .i64 x, .int .i64 y, .int .i64 md] 25)
  have k0 := Blk.new w 25 #[.int .i64 btn, .int .i64 typ, .int .i64 x, .int .i64 y, .int .i64 md]
  obtain ⟨a0, a1, a2, a3, a4⟩ := Blk.cells5 k0
  obtain ⟨p, hp⟩ : ∃ p, (typ == 1) = p := ⟨_, rfl⟩
  rw [hp] at hq
  have HC := Lib.hid hq
  clear hq
  cases p with
  | true =>
    go_enter Try.func20, Try.ntmps20
    go_wp2_with fail
    go_ret
    exact ⟨ret_bl HC.out, hB⟩
  | false =>
    go_enter Try.func20, Try.ntmps20
    go_wp2_with fail
    go_ret
    exact ⟨ret_bl HC.out, hB⟩
def tclkV : Value := .func (.func 19) #[] #[]
set_option maxRecDepth 100000 in
set_option maxHeartbeats 4000000 in
theorem ttwo_any {c : Nat} (btn typ x y md : Int) (q : Bool) (hq : ((typ != 4) || (btn != 0)) = q) (w : World) (hc : Blk w c 32 #[.func (.func 19) #[] #[]]) : Calls Try.prog 21 #[.agg #[.int .i64 btn, .int .i64 typ, .int .i64 x, .int .i64 y, .int .i64 md], .pointer (some ⟨c, 0, none⟩)] w fun e w' => e = .returned (.bool q) ∧ Below w.heap.size w w' := by
  have hB := (Below.refl w.heap.size w).alloc (Nat.le_refl _) (.cells #[.int .i64 btn, .int .i64 typ, .int .i64 x, .int .i64 y, .int .i64 md] 25)
  have k0 := Blk.new w 25 #[.int .i64 btn, .int .i64 typ, .int .i64 x, .int .i64 y, .int .i64 md]
  obtain ⟨a0, a1, a2, a3, a4⟩ := Blk.cells5 k0
  have c1 := (hc.alloc (.cells #[.int .i64 btn, .int .i64 typ, .int .i64 x, .int .i64 y, .int .i64 md] 25)).cell 0
  obtain ⟨p, hp⟩ : ∃ p, (typ != 4) = p := ⟨_, rfl⟩
  have HK : Hid (∀ W, Calls Try.prog 19 #[.agg #[.int .i64 btn, .int .i64 typ, .int .i64 x, .int .i64 y, .int .i64 md]] W fun e w' => e = .returned (.bool p) ∧ Below W.heap.size W w') := Lib.hid fun W => tclk_any btn typ x y md p hp W
  rw [hp] at hq
  have HC := Lib.hid hq
  clear hq hp hc
  go_enter Try.func21, Try.ntmps21
  go_wp2_with fail
  refine (HK.out _).mono ?_
  rintro z w1 ⟨rfl, hb1⟩
  have k1 := k0.below hb1 k0.lt
  clear k0 a0 a1 a2 a3 a4 c1
  obtain ⟨a0, a1, a2, a3, a4⟩ := Blk.cells5 k1
  have hB1 := hB.trans (hb1.mono hB.size)
  cases p with
  | true =>
    go_wp2_with fail
    go_ret
    exact ⟨ret_bl HC.out, hB1⟩
  | false =>
    go_wp2_with fail
    go_ret
    exact ⟨ret_bl HC.out, hB1⟩
set_option maxRecDepth 100000 in
set_option maxHeartbeats 4000000 in
theorem tall_any (btn typ x y md : Int) (w : World) : Calls Try.prog 22 #[.agg #[.int .i64 btn, .int .i64 typ, .int .i64 x, .int .i64 y, .int .i64 md]] w fun e w' => e = .returned (.bool true) ∧ Below w.heap.size w w' := by
  have hB := (Below.refl w.heap.size w).alloc (Nat.le_refl _) (.cells #[.int .i64 btn, .int .i64 typ, .int .i64 x, .int .i64 y, .int .i64 md] 25)
  go_enter Try.func22, Try.ntmps22
  go_wp2_with fail
  go_ret
  exact ⟨rfl, hB⟩
theorem kint15 : Keyed Try.prog 3 := int_keyed Try.underlying3
theorem key15 {n : Int} (h : -9223372036854775808 ≤ n ∧ n ≤ 9223372036854775807) : keyOf Try.prog 3 (.int .i64 n) = some (.int .i64 n) := keyOf_int_mk Try.underlying3 (WalkArith.wf_i64 (by have := h.1; have := h.2; omega))
def tway (n : Int) (c : Nat) : Value := if n = 9 then .func (.func 20) #[] #[] else if n = 1000 then .func (.func 19) #[] #[] else if n = 1002 then .func (.func 21) #[] #[.pointer (some ⟨c, 0, none⟩)] else .func (.func 22) #[] #[]
def tmodesL (c : Nat) : List (Lit × DataW Value) := [(.int .i64 9, .held (.func (.func 20) #[] #[])), (.int .i64 1000, .held (.func (.func 19) #[] #[])), (.int .i64 1002, .held (.func (.func 21) #[] #[.pointer (some ⟨c, 0, none⟩)])), (.int .i64 1003, .held (.func (.func 22) #[] #[]))]
def TmodesE (w : World) (e : Ending) (w' : World) : Prop := ∃ c b n, e = .returned (.map (some b)) ∧ Blk w' c 32 #[.func (.func 19) #[] #[]] ∧ w'.ownsMap Try.prog 3 hel b n (.map (tmodesL c)) ∧ Below w.heap.size w w'
theorem below_but15 {B b : Nat} {a w w' : World} (h : Below B a w) (hg : w.grownBy w' (some b)) (hB : B ≤ w.heap.size) (hb : B ≤ b) : Below B a w' :=
  ⟨hg.os.trans h.os, hg.tape.trans h.tape, hg.output.trans h.output, Nat.le_trans h.size hg.size, fun k hk => (hg.block k (Nat.lt_of_lt_of_le hk hB) (fun e => by injection e with e; omega)).trans (h.block k hk)⟩
set_option maxRecDepth 100000 in
set_option maxHeartbeats 8000000 in
theorem tmodes_any (w : World) : Calls Try.prog 14 #[] w (TmodesE w) := by
  have i1 := key15 (n := 9) (by decide)
  have i2 := key15 (n := 1000) (by decide)
  have i3 := key15 (n := 1002) (by decide)
  have i4 := key15 (n := 1003) (by decide)
  have k0 := (Blk.new w 32 #[.func (.func 19) #[] #[]]).alloc (.map #[] 0)
  have hB0 : Below w.heap.size w (w.alloc (.cells #[.func (.func 19) #[] #[]] 32)) := (Below.refl _ w).alloc (Nat.le_refl _) _
  have hB := hB0.alloc hB0.size (.map #[] 0)
  have hmm := @run_makeMap Try.prog
  have o0 := World.ownsMap_made (w.alloc (.cells #[.func (.func 19) #[] #[]] 32)) Try.prog 3 hel
  rw [World.size_alloc] at o0
  have hms : w.heap.size ≤ w.heap.size + 1 := Nat.le_succ _
  have c0 := k0.cell 0
  obtain ⟨w1, r1, o1, t1⟩ := o0.store kint15 Try.underlying42 (by decide) i1 (show hel (.func (.func 20) #[] #[]) = some (.held (.func (.func 20) #[] #[]), []) from rfl)
  have hne : (some (w.heap.size + 1) : Option Nat) ≠ some w.heap.size := by simp
  have k1 := k0.grown t1.grown hne
  have c1 := k1.cell 0
  obtain ⟨w2, r2, o2, t2⟩ := o1.store kint15 Try.underlying42 (by decide) i2 (show hel (.func (.func 19) #[] #[]) = some (.held (.func (.func 19) #[] #[]), []) from rfl)
  obtain ⟨w3, r3, o3, t3⟩ := o2.store kint15 Try.underlying42 (by decide) i3 (show hel (.func (.func 21) #[] #[.pointer (some ⟨w.heap.size, 0, none⟩)]) = some (.held (.func (.func 21) #[] #[.pointer (some ⟨w.heap.size, 0, none⟩)]), []) from rfl)
  obtain ⟨w4, r4, o4, t4⟩ := o3.store kint15 Try.underlying42 (by decide) i4 (show hel (.func (.func 22) #[] #[]) = some (.held (.func (.func 22) #[] #[]), []) from rfl)
  have hb1 := below_but15 hB t1.grown hB.size hms
  have hb2 := below_but15 hb1 t2.grown hb1.size hms
  have hb3 := below_but15 hb2 t3.grown hb2.size hms
  have hb4 := below_but15 hb3 t4.grown hb3.size hms
  have k4 := ((k1.grown t2.grown hne).grown t3.grown hne).grown t4.grown hne
  clear o0 o1 o2 o3 t1 t2 t3 t4 hB hB0 k0 k1 i1 i2 i3 i4 hb1 hb2 hb3 hms hne c0
  have O := Lib.hid o4
  have K := Lib.hid k4
  clear o4 k4
  go_enter Try.func14, Try.ntmps14
  go_wp2_with fail
  refine bodyPost_ret (v := .map (some (w.heap.size + 1))) (by simp [results, Try.results14, go_sem]) rfl ⟨w.heap.size, w.heap.size + 1, _, rfl, K.out, O.out, hb4⟩
theorem tmodes_at (c : Nat) (n : Int) : (DataW.map (tmodesL c)).atKey (.int .i64 n) (.held .nilFunc) = (if n = 9 ∨ n = 1000 ∨ n = 1002 ∨ n = 1003 then .held (tway n c) else .held .nilFunc) ∧ Maps.has (DataW.map (tmodesL c)) (.int .i64 n) = decide (n = 9 ∨ n = 1000 ∨ n = 1002 ∨ n = 1003) := by
  by_cases h1 : n = 9
  · subst h1; exact ⟨by kernel_rfl, by kernel_rfl⟩
  by_cases h2 : n = 1000
  · subst h2; exact ⟨by kernel_rfl, by kernel_rfl⟩
  by_cases h3 : n = 1002
  · subst h3; exact ⟨by kernel_rfl, by kernel_rfl⟩
  by_cases h4 : n = 1003
  · subst h4; exact ⟨by kernel_rfl, by kernel_rfl⟩
  have key : ∀ q ∈ tmodesL c, q.1 ≠ Lit.int .i64 n := by
    intro q hq
    simp only [tmodesL, List.mem_cons, List.not_mem_nil, or_false] at hq
    rcases hq with rfl | rfl | rfl | rfl <;> (intro e; simp at e; omega)
  rw [if_neg (by omega), decide_eq_false (by omega)]
  exact ⟨WideAt.atKey_none _ key, has_false_of_atKey fun z => WideAt.atKey_none z key⟩
theorem tmodes_look {w : World} {c b k : Nat} {n : Int} {v : Value} {q : Bool} (h : w.ownsMap Try.prog 3 hel b k (.map (tmodesL c))) (hn : -9223372036854775808 ≤ n ∧ n ≤ 9223372036854775807) (hv : (if n = 9 ∨ n = 1000 ∨ n = 1002 ∨ n = 1003 then DataW.held (tway n c) else .held .nilFunc) = .held v) (hq : decide (n = 9 ∨ n = 1000 ∨ n = 1002 ∨ n = 1003) = q) :
    (Instr.lookup 42 (.map (some b)) (.int .i64 n) true).run Try.prog w = .ok (.tuple #[v, .bool q]) w := by
  obtain ⟨v1, p1, h1, e1⟩ := h.look_ok kint15 Try.underlying42 (show (zeroValue 32).run Try.prog w = .ok .nilFunc w by kernel_rfl) (show hel .nilFunc = some (.held .nilFunc, []) from rfl) (key15 hn)
  rw [(tmodes_at c n).1, hv] at e1
  rw [(tmodes_at c n).2, hq] at h1
  have e1' : v1 = v := by simpa [hel] using congrArg (Option.map Prod.fst) e1
  rw [e1'] at h1
  exact h1
end Go.Proofs.Ytbdpjhlfaelgpaa
