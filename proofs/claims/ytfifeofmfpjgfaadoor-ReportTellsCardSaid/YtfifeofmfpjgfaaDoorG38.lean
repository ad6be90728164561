/-
  Layer 6: the document's functions, walked.
  Cut out of ModR.
-/
import Derived.Test.YtfifeofmfpjgfaaDoorG17
import Derived.BigQuiet
import Derived.Deep.QuietTactic
import Derived.Laws.StructEq
namespace Go.Proofs.YtfifeofmfpjgfaaDoor
open Go.RowKit
set_option maxRecDepth 100000 in
theorem rone_any (was n : Int) (on : Bool) (w : World) : Calls Tryd.prog 76 #[.int .i64 was, .int .i64 n, .bool on] w fun e w' => e = .returned (.int .i64 (oneM was n on)) ∧ w = w' := by
 cases on with
 | true =>
   go_enter Tryd.func76, Tryd.ntmps76
   go_wp2
   go_ret
   exact ⟨rfl, rfl⟩
 | false =>
   by_cases h : was = n
   ·have E := Lib.hid (show oneM was n false = 0 by unfold oneM; rw [if_neg (by decide), if_pos h])
    subst h
    go_enter Tryd.func76, Tryd.ntmps76
    go_wp2
    go_ret
    exact ⟨by rw [E.out]; rfl, rfl⟩
   ·have E := Lib.hid (show oneM was n false = was by unfold oneM; rw [if_neg (by decide), if_neg h])
    have t : (was == n) = false := beq_false_of_ne h
    clear h
    go_enter Tryd.func76, Tryd.ntmps76
    go_wp2
    go_ret
    exact ⟨by rw [E.out]; rfl, rfl⟩
set_option maxRecDepth 100000 in
theorem rfixed_any (p : Bool) (n : Int) (w : World) : Calls Tryd.prog 63 #[.bool p, .int .i64 n] w fun e w' => e = .returned (.int .i64 (fixedM p n)) ∧ w = w' := by
 cases p with
 | true =>
   by_cases h1 : n = 7
   ·subst h1
    go_enter Tryd.func63, Tryd.ntmps63
    go_wp2
    go_ret
    exact ⟨rfl, rfl⟩
   by_cases h2 : n = 25
   ·subst h2
    go_enter Tryd.func63, Tryd.ntmps63
    go_wp2
    go_ret
    exact ⟨rfl, rfl⟩
   have E := Lib.hid (show fixedM true n = 0 by unfold fixedM; rw [if_neg (by omega), if_neg (by simp)])
   have t1 : (n == 7) = false := beq_false_of_ne h1
   have t2 : (n == 25) = false := beq_false_of_ne h2
   clear h1 h2
   go_enter Tryd.func63, Tryd.ntmps63
   go_wp2
   go_ret
   exact ⟨by rw [E.out]; rfl, rfl⟩
 | false =>
   by_cases h1 : n = 4
   ·subst h1
    go_enter Tryd.func63, Tryd.ntmps63
    go_wp2
    go_ret
    exact ⟨rfl, rfl⟩
   by_cases h2 : n = 12
   ·subst h2
    go_enter Tryd.func63, Tryd.ntmps63
    go_wp2
    go_ret
    exact ⟨rfl, rfl⟩
   have E := Lib.hid (show fixedM false n = 0 by unfold fixedM; rw [if_neg (by simp), if_neg (by omega)])
   have t1 : (n == 4) = false := beq_false_of_ne h1
   have t2 : (n == 12) = false := beq_false_of_ne h2
   clear h1 h2
   go_enter Tryd.func63, Tryd.ntmps63
   go_wp2
   go_ret
   exact ⟨by rw [E.out]; rfl, rfl⟩
set_option maxRecDepth 100000 in
set_option maxHeartbeats 4000000 in
theorem rplain_any (m : Mo) (n : Int) (on : Bool) (w : World) : Calls Tryd.prog 75 #[moV m, .int .i64 n, .bool on] w (MoE (plainM m n on).1 (plainM m n on).2 w) := by
 have hB : ∀ (x y : Obj), Below w.heap.size w ((w.alloc x).alloc y) := fun x y => ((Below.refl _ w).alloc (Nat.le_refl _) _).alloc (by simp) _
 by_cases h1 : n = 2
 ·subst h1
  have E := Lib.hid (show plainM m 2 on = ({ m with lock := on }, true) from if_pos rfl)
  rw [moV]
  go_enter Tryd.func75, Tryd.ntmps75
  go_wp2
  refine bodyPost_ret (v := .tuple #[moV { m with lock := on }, .bool true]) (by simp [results, Tryd.results75, go_sem, moV]) rfl ?_
  rw [E.out]
  exact ⟨rfl, hB _ _⟩
 by_cases h2 : n = 20
 ·subst h2
  have E := Lib.hid (show plainM m 20 on = ({ m with line := on }, true) by unfold plainM; rw [if_neg (by decide), if_pos rfl])
  rw [moV]
  go_enter Tryd.func75, Tryd.ntmps75
  go_wp2
  refine bodyPost_ret (v := .tuple #[moV { m with line := on }, .bool true]) (by simp [results, Tryd.results75, go_sem, moV]) rfl ?_
  rw [E.out]
  exact ⟨rfl, hB _ _⟩
 ·have E := Lib.hid (show plainM m n on = (m, false) by unfold plainM; rw [if_neg h1, if_neg h2])
  have t1 : (n == 2) = false := beq_false_of_ne h1
  have t2 : (n == 20) = false := beq_false_of_ne h2
  clear h1 h2
  rw [moV]
  go_enter Tryd.func75, Tryd.ntmps75
  go_wp2
  refine bodyPost_ret (v := .tuple #[moV m, .bool false]) (by simp [results, Tryd.results75, go_sem, moV]) rfl ?_
  rw [E.out]
  exact ⟨rfl, hB _ _⟩
set_option maxRecDepth 100000 in
set_option maxHeartbeats 8000000 in
theorem rset_any (m : Mo) (p : Bool) (n : Int) (on : Bool) (w : World) : Calls Tryd.prog 62 #[moV m, .bool p, .int .i64 n, .bool on] w (MoE (setM m p n on).1 (setM m p n on).2 w) := by
 have hB : ∀ (x y : Obj), Below w.heap.size w ((w.alloc x).alloc y) := fun x y => ((Below.refl _ w).alloc (Nat.le_refl _) _).alloc (by simp) _
 cases p with
 | false =>
   obtain ⟨m', q, hm⟩ : ∃ m' q, plainM m n on = (m', q) := ⟨_, _, rfl⟩
   have E := Lib.hid (show setM m false n on = (m', q) from (if_pos rfl).trans hm)
   have R := rplain_any m n on
   rw [hm] at R
   have HR := Lib.hid R
   clear R hm
   rw [moV]
   go_enter Tryd.func62, Tryd.ntmps62
   go_wp2_with fail
   refine (HR.out _).mono ?_
   rintro e w1 ⟨rfl, hb1⟩
   have hb := (hB (.cells #[.bool m.cursor, .bool m.keypad, .bool m.back, .bool m.focus, .bool m.paste, .bool m.lock, .bool m.line, .int .i64 m.mouse, .int .i64 m.coding, .int .i64 m.other] 35) (.cells #[.bool false, .bool false, .bool false, .bool false, .bool false, .bool false, .bool false, .int .i64 0, .int .i64 0, .int .i64 0] 35)).trans (hb1.mono (by simp; omega))
   have k8 : Blk w1 (w.heap.size + 1) 35 #[.bool false, .bool false, .bool false, .bool false, .bool false, .bool false, .bool false, .int .i64 0, .int .i64 0, .int .i64 0] := by
    have := Blk.new (w.alloc (.cells #[.bool m.cursor, .bool m.keypad, .bool m.back, .bool m.focus, .bool m.paste, .bool m.lock, .bool m.line, .int .i64 m.mouse, .int .i64 m.coding, .int .i64 m.other] 35)) 35 #[.bool false, .bool false, .bool false, .bool false, .bool false, .bool false, .bool false, .int .i64 0, .int .i64 0, .int .i64 0]
    simp only [World.size_alloc] at this
    exact this.below hb1 (by simp)
   obtain ⟨c0, c1, c2, c3, c4, c5, c6, c7, c8, c9⟩ := Blk.cells10 k8
   have z0 := k8.frozen 0
   have z1 := k8.frozen 1
   have z2 := k8.frozen 2
   have z3 := k8.frozen 3
   have z4 := k8.frozen 4
   have z5 := k8.frozen 5
   have z6 := k8.frozen 6
   have z7 := k8.frozen 7
   have z8 := k8.frozen 8
   have z9 := k8.frozen 9
   rw [moV]
   have k9 := k8.set10 (.bool m'.cursor) (.bool m'.keypad) (.bool m'.back) (.bool m'.focus) (.bool m'.paste) (.bool m'.lock) (.bool m'.line) (.int .i64 m'.mouse) (.int .i64 m'.coding) (.int .i64 m'.other)
   obtain ⟨r0, r1, r2, r3, r4, r5, r6, r7, r8, r9⟩ := Blk.cells10 k9
   go_wp2_with fail
   refine bodyPost_ret (v := .tuple #[moV m', .bool q]) (by simp [results, Tryd.results62, go_sem, moV, r0, r1, r2, r3, r4, r5, r6, r7, r8, r9]) rfl ?_
   rw [E.out]
   exact ⟨rfl, below_set10 hb (by omega) _ _ _ _ _ _ _ _ _ _⟩
 | true =>
   have t0 : (false : Bool) = false := rfl
   clear t0
   by_cases h0 : n = 1
   ·subst h0
    have E := Lib.hid (show setM m true 1 on = ({ m with cursor := on }, true) from rfl)
    rw [moV]
    go_enter Tryd.func62, Tryd.ntmps62
    go_wp2_with fail
    refine bodyPost_ret (v := .tuple #[moV { m with cursor := on }, .bool true]) (by simp [results, Tryd.results62, go_sem, moV]) rfl ?_
    rw [E.out]
    exact ⟨rfl, hB _ _⟩
   by_cases h1 : n = 66
   ·subst h1
    have E := Lib.hid (show setM m true 66 on = ({ m with keypad := on }, true) from rfl)
    clear h0
    rw [moV]
    go_enter Tryd.func62, Tryd.ntmps62
    go_wp2_with fail
    refine bodyPost_ret (v := .tuple #[moV { m with keypad := on }, .bool true]) (by simp [results, Tryd.results62, go_sem, moV]) rfl ?_
    rw [E.out]
    exact ⟨rfl, hB _ _⟩
   by_cases h2 : n = 67
   ·subst h2
    have E := Lib.hid (show setM m true 67 on = ({ m with back := on }, true) from rfl)
    clear h0 h1
    rw [moV]
    go_enter Tryd.func62, Tryd.ntmps62
    go_wp2_with fail
    refine bodyPost_ret (v := .tuple #[moV { m with back := on }, .bool true]) (by simp [results, Tryd.results62, go_sem, moV]) rfl ?_
    rw [E.out]
    exact ⟨rfl, hB _ _⟩
   by_cases h3 : n = 1004
   ·subst h3
    have E := Lib.hid (show setM m true 1004 on = ({ m with focus := on }, true) from rfl)
    clear h0 h1 h2
    rw [moV]
    go_enter Tryd.func62, Tryd.ntmps62
    go_wp2_with fail
    refine bodyPost_ret (v := .tuple #[moV { m with focus := on }, .bool true]) (by simp [results, Tryd.results62, go_sem, moV]) rfl ?_
    rw [E.out]
    exact ⟨rfl, hB _ _⟩
   by_cases h4 : n = 2004
   ·subst h4
    have E := Lib.hid (show setM m true 2004 on = ({ m with paste := on }, true) from rfl)
    clear h0 h1 h2 h3
    rw [moV]
    go_enter Tryd.func62, Tryd.ntmps62
    go_wp2_with fail
    refine bodyPost_ret (v := .tuple #[moV { m with paste := on }, .bool true]) (by simp [results, Tryd.results62, go_sem, moV]) rfl ?_
    rw [E.out]
    exact ⟨rfl, hB _ _⟩
   have t1 : (n == 1) = false := beq_false_of_ne h0
   have t2 : (n == 66) = false := beq_false_of_ne h1
   have t3 : (n == 67) = false := beq_false_of_ne h2
   have t4 : (n == 1004) = false := beq_false_of_ne h3
   have t5 : (n == 2004) = false := beq_false_of_ne h4
   by_cases h5 : mouseN n = true
   ·have E := Lib.hid (show setM m true n on = ({ m with mouse := oneM m.mouse n on }, true) by unfold setM; rw [if_neg (by decide), if_neg h0, if_neg h1, if_neg h2, if_neg h3, if_neg h4, if_pos h5])
    have h6 := (mouseN_iff n).1 h5
    clear h0 h1 h2 h3 h4 h5 t1 t2 t3 t4 t5
    rcases h6 with rfl | rfl | rfl | rfl
    all_goals
     rw [moV]
     go_enter Tryd.func62, Tryd.ntmps62
     go_wp2_with fail
     refine (rone_any m.mouse _ on _).mono ?_
     rintro e w1 ⟨rfl, rfl⟩
     go_wp2_with fail
     refine bodyPost_ret (v := .tuple #[moV { m with mouse := oneM m.mouse _ on }, .bool true]) (by simp [results, Tryd.results62, go_sem, moV]; rfl) rfl ?_
     rw [E.out]
     exact ⟨rfl, hB _ _⟩
   by_cases h6 : codingN n = true
   ·have E := Lib.hid (show setM m true n on = ({ m with coding := oneM m.coding n on }, true) by unfold setM; rw [if_neg (by decide), if_neg h0, if_neg h1, if_neg h2, if_neg h3, if_neg h4, if_neg h5, if_pos h6])
    have h7 := (codingN_iff n).1 h6
    clear h0 h1 h2 h3 h4 h5 h6 t1 t2 t3 t4 t5
    rcases h7 with rfl | rfl | rfl
    all_goals
     rw [moV]
     go_enter Tryd.func62, Tryd.ntmps62
     go_wp2_with fail
     refine (rone_any m.coding _ on _).mono ?_
     rintro e w1 ⟨rfl, rfl⟩
     go_wp2_with fail
     refine bodyPost_ret (v := .tuple #[moV { m with coding := oneM m.coding _ on }, .bool true]) (by simp [results, Tryd.results62, go_sem, moV]; rfl) rfl ?_
     rw [E.out]
     exact ⟨rfl, hB _ _⟩
   ·have E := Lib.hid (show setM m true n on = (m, false) by unfold setM; rw [if_neg (by decide), if_neg h0, if_neg h1, if_neg h2, if_neg h3, if_neg h4, if_neg h5, if_neg h6])
    have n6 : ¬ (n = 9 ∨ n = 1000 ∨ n = 1002 ∨ n = 1003) := fun h => h5 ((mouseN_iff n).2 h)
    have n7 : ¬ (n = 1005 ∨ n = 1006 ∨ n = 1015) := fun h => h6 ((codingN_iff n).2 h)
    have t6 : (n == 9) = false := beq_false_of_ne (by omega)
    have t7 : (n == 1000) = false := beq_false_of_ne (by omega)
    have t8 : (n == 1002) = false := beq_false_of_ne (by omega)
    have t9 : (n == 1003) = false := beq_false_of_ne (by omega)
    have ta : (n == 1005) = false := beq_false_of_ne (by omega)
    have tb : (n == 1006) = false := beq_false_of_ne (by omega)
    have tc : (n == 1015) = false := beq_false_of_ne (by omega)
    clear h0 h1 h2 h3 h4 h5 h6 n6 n7
    rw [moV]
    go_enter Tryd.func62, Tryd.ntmps62
    go_wp2_with fail
    refine bodyPost_ret (v := .tuple #[moV m, .bool false]) (by simp [results, Tryd.results62, go_sem, moV]) rfl ?_
    rw [E.out]
    exact ⟨rfl, hB _ _⟩
set_option maxRecDepth 100000 in
set_option maxHeartbeats 8000000 in
theorem rget_any (m : Mo) (p : Bool) (n : Int) (w : World) : Calls Tryd.prog 37 #[moV m, .bool p, .int .i64 n] w fun e w' => e = .returned (.int .i64 (getM m p n)) ∧ Below w.heap.size w w' := by
 obtain ⟨m', q, hm⟩ : ∃ m' q, setM m p n true = (m', q) := ⟨_, _, rfl⟩
 have R := rset_any m p n true
 have hg : getM m p n = if q = true then (if sameM m' m = true then 1 else 2) else fixedM p n := by unfold getM; rw [hm]
 rw [hm] at R
 have HR := Lib.hid R
 have HG := Lib.hid hg
 clear R hm hg
 rw [moV]
 go_enter Tryd.func37, Tryd.ntmps37
 go_wp2_with fail
 refine (HR.out _).mono ?_
 rintro e w1 ⟨rfl, hb1⟩
 have hb := ((Below.refl _ w).alloc (Nat.le_refl _) (.cells #[.bool m.cursor, .bool m.keypad, .bool m.back, .bool m.focus, .bool m.paste, .bool m.lock, .bool m.line, .int .i64 m.mouse, .int .i64 m.coding, .int .i64 m.other] 35)).trans (hb1.mono (by simp))
 rw [moV]
 cases q with
 | false =>
   go_wp2_with fail
   refine (rfixed_any p n _).mono ?_
   rintro e w2 ⟨rfl, rfl⟩
   go_wp2_with fail
   go_ret
   rw [HG.out, if_neg (by decide)]
   exact ⟨rfl, hb.alloc hb.size _⟩
 | true =>
   have kx : Blk (w1.alloc (.cells #[.bool m'.cursor, .bool m'.keypad, .bool m'.back, .bool m'.focus, .bool m'.paste, .bool m'.lock, .bool m'.line, .int .i64 m'.mouse, .int .i64 m'.coding, .int .i64 m'.other] 35)) w.heap.size 35 #[.bool m.cursor, .bool m.keypad, .bool m.back, .bool m.focus, .bool m.paste, .bool m.lock, .bool m.line, .int .i64 m.mouse, .int .i64 m.coding, .int .i64 m.other] := ((Blk.new w 35 #[.bool m.cursor, .bool m.keypad, .bool m.back, .bool m.focus, .bool m.paste, .bool m.lock, .bool m.line, .int .i64 m.mouse, .int .i64 m.coding, .int .i64 m.other]).below hb1 (by simp)).alloc _
   obtain ⟨c0, c1, c2, c3, c4, c5, c6, c7, c8, c9⟩ := Blk.cells10 kx
   have hbA := fun o => hb.alloc hb.size o
   have HS := Lib.hid (sameM_eq m' m)
   go_wp2_with fail
   all_goals
    go_ret
    refine ⟨ret_i ?_, hbA _⟩
    rw [HG.out, HS.out]
    simp [*]
end Go.Proofs.YtfifeofmfpjgfaaDoor
