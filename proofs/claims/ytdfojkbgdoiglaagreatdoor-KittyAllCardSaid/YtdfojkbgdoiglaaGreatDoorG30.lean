/-
  Layer 13, walked: the document's first parameter. Layer 3, walked: the program's parameters as a text. Layer 10, the landed mods: May.
-/
import Derived.Test.YtdfojkbgdoiglaaGreatDoorG09
import Derived.Test.YtdfojkbgdoiglaaGreatDoorG16
import Derived.Test.YtdfojkbgdoiglaaGreatDoorG17
import Derived.Test.YtdfojkbgdoiglaaGreatDoorG19
import Derived.Test.YtdfojkbgdoiglaaGreatDoorG21
import Derived.Test.YtdfojkbgdoiglaaGreatDoorG27
import Derived.Test.YtdfojkbgdoiglaaGreatDoorG29
namespace Go.Proofs.YtdfojkbgdoiglaaGreatDoor
open Go.RowKit
set_option maxRecDepth 100000 in
set_option maxHeartbeats 8000000 in
theorem rfirst_any (f : Int) (k : Ky) (hm : k.mods ≤ 9223372036854775807) (w : World) : Calls Tryz.prog 58 #[.int .i64 f, kyV k] w (OutI (firstK f k) (firstK f k).length w) := by
 obtain ⟨i0, hi, hz0, hz1, hz2⟩ : ∃ i, Tryz.prog.info? 3 = some i ∧ i.zero = some (.int .i64 0) ∧ i.size = 1 ∧ i.bytes = 8 := ⟨_, rfl, rfl, rfl, rfl⟩
 obtain ⟨f4, hf4⟩ : ∃ b, flagK f 4 = b := ⟨_, rfl⟩
 obtain ⟨s1, hs1⟩ : ∃ b, hasN k.mods 1 = b := ⟨_, rfl⟩
 have HF4 : Hid (∀ W, Calls Tryz.prog 22 #[.int .i64 f, .int .i64 4] W fun e w' => e = .returned (.bool f4) ∧ Below W.heap.size W w') := Lib.hid fun W => by rw [← hf4]; exact rflag_any f 4 (by decide) (by decide) W
 have HHS : Hid (∀ W, Calls Tryz.prog 55 #[.int .i64 k.mods, .int .i64 1] W fun e w' => e = .returned (.bool s1) ∧ Below W.heap.size W w') := Lib.hid fun W => by rw [← hs1]; exact rhas10_any k.mods 1 (by decide) (by decide) hm W
 obtain ⟨⟨fn, ff⟩, hfr⟩ : ∃ x, frmK k.code = x := ⟨_, rfl⟩
 have HFR : Hid (∀ W, Calls Tryz.prog 8 #[.int .i64 k.code] W fun e w' => e = .returned (.tuple #[.int .i64 fn, .int .u8 ff]) ∧ Below W.heap.size W w') := Lib.hid fun W => by
  have := rfrm_any k.code W
  rw [hfr] at this
  exact this
 have HC := Lib.hid (show firstK f k = fn :: (if f4 = true ∧ ff = 117 then altK k.shift k.base k.code s1 else []) by unfold firstK; rw [hf4, hs1, hfr])
 obtain ⟨R, hR⟩ : ∃ R, firstK f k = R := ⟨_, rfl⟩
 rw [hR] at HC ⊢
 clear hf4 hs1 hfr hR hm
 obtain ⟨code, mods, typ, shift, base, text⟩ := k
 simp only [kyV] at HC HHS HFR ⊢
 have k0 := Blk.new w 23 #[.int .i64 code, .int .i64 mods, .int .i64 typ, .int .i64 shift, .int .i64 base, .string text]
 have hB : Below w.heap.size w (w.alloc (.cells #[.int .i64 code, .int .i64 mods, .int .i64 typ, .int .i64 shift, .int .i64 base, .string text] 23)) := (Below.refl _ w).alloc (Nat.le_refl _) _
 have a0 := k0.cell 0
 go_enter Tryz.func58, Tryz.ntmps58
 go_wp2_with fail
 refine (HFR.out _).mono ?_
 rintro e w1 ⟨rfl, hb1⟩
 have k1 := k0.below hb1 k0.lt
 have hB1 := hB.trans (hb1.mono hB.size)
 clear k0 hB hb1 a0 HFR
 have o1 := own_lit (w1.alloc (.cells #[.int .i64 fn] 3)) (w.heap.size + 1) 3 w1.heap.size (.int .i64 fn) (by have := k1.lt; omega) (heap_alloc_new w1 _)
 have k2 := k1.alloc (.cells #[.int .i64 fn] 3)
 have hB2 := hB1.alloc hB1.size (.cells #[.int .i64 fn] 3)
 go_upto_region 3 with (fail)
 generalize hW : w1.alloc (.cells #[.int .i64 fn] 3) = w2 at *
 clear hW
 generalize w1.heap.size = g1 at *
 clear k1 hB1
 go_wp2_with fail
 refine (HF4.out _).mono ?_
 rintro e w3 ⟨rfl, hb3⟩
 have k3 := k2.below hb3 k2.lt
 have o3 := o1.below hb3 (fun z hz => (o1.lt z hz).2)
 have hB3 := hB2.trans (hb3.mono hB2.size)
 clear k2 o1 hB2 hb3 HF4
 cases f4 with
 | false =>
   have HR := Lib.hid (show R = [fn] by rw [HC.out]; simp)
   clear HC
   go_wp2_with fail
   go_ret
   exact OutI.of HR.out rfl (Own.row (p := [fn]) o3) hB3
 | true =>
 by_cases hu : ff = 117
 rotate_left
 ·have t0 : (ff == 117) = false := beq_false_of_ne hu
  have t1 : (ff != 117) = true := by simp [bne, t0]
  have HR := Lib.hid (show R = [fn] by rw [HC.out, if_neg (fun e => hu e.2)])
  clear HC hu
  go_wp2_with fail
  go_ret
  exact OutI.of HR.out rfl (Own.row (p := [fn]) o3) hB3
 subst hu
 have HD := Lib.hid (show R = fn :: altK shift base code s1 by rw [HC.out]; simp)
 clear HC
 have a0 := k3.cell 0
 have a1 := k3.cell 1
 have a3 := k3.cell 3
 have a4 := k3.cell 4
 by_cases hs0 : shift = 0
 ·subst hs0
  by_cases hb0 : base = 0
  ·subst hb0
   have HR := Lib.hid (show R = [fn] by rw [HD.out]; simp [altK, *])
   go_wp2_with fail
   go_ret
   exact OutI.of HR.out rfl (Own.row (p := [fn]) o3) hB3
  have b0 : (base == 0) = false := beq_false_of_ne hb0
  have b1 : (base != 0) = true := by simp [bne, b0]
  by_cases hbc : base = code
  ·subst hbc
   have HR := Lib.hid (show R = [fn] by rw [HD.out]; simp [altK, *])
   go_wp2_with fail
   go_ret
   exact OutI.of HR.out rfl (Own.row (p := [fn]) o3) hB3
  have b2 : (base == code) = false := beq_false_of_ne hbc
  have b3 : (base != code) = true := by simp [bne, b2]
  have p1 := o3.alloc (.cells #[.int .i64 (-1)] 3)
  have p2 := k3.alloc (.cells #[.int .i64 (-1)] 3)
  have p3 := hB3.alloc hB3.size (.cells #[.int .i64 (-1)] 3)
  have pr : Rd (w3.alloc (.cells #[.int .i64 (-1)] 3)) (some ⟨w3.heap.size, 0, none⟩) [.int .i64 (-1)] := Rd.block (heap_alloc_new w3 _) (by simp)
  have ps : w.heap.size + 1 ≤ (w3.alloc (.cells #[.int .i64 (-1)] 3)).heap.size := by have := k3.lt; simp; omega
  have p6 : 1 + 1 ≤ maxLen := by decide
  have p7 : (1 + 1) * 8 ≤ 140737488355328 := by decide
  have p8 : ∀ u ∈ [Value.int IntKind.i64 (-1)], u.oneCell' = true := fun u hu => by rw [List.mem_singleton] at hu; subst hu; rfl
  go_upto_region 11 with (at_builtin; refine list_app _ rfl (.tmp 55) (.tmp 56) 69 rfl (w.heap.size + 1) 3 i0 _ 1 8 Tryz.underlying69 hi hz0 hz1 hz2 rfl Nat.one_pos _ _ _ rfl p1 _ 1 1 [.int .i64 (-1)] rfl rfl pr p8 p6 p7 ps ?_; intro v4 wz4 o4 hg)
  obtain ⟨A4, c4, rfl, _⟩ := o4.form
  have k4 := p2.grown hg (fun e => by have := (p1.lt _ e).1; omega)
  have hB4 := p3.grown hg (Nat.le_trans (Nat.le_succ _) ps) (fun g hg => by have := (p1.lt g hg).1; omega)
  clear p1 p2 p3 pr ps p6 p7 p8 hg o3 k3 hB3
  have a4 := k4.cell 4
  have p1 := o4.alloc (.cells #[.int .i64 base] 3)
  have p2 := k4.alloc (.cells #[.int .i64 base] 3)
  have p3 := hB4.alloc hB4.size (.cells #[.int .i64 base] 3)
  have pr : Rd (wz4.alloc (.cells #[.int .i64 base] 3)) (some ⟨wz4.heap.size, 0, none⟩) [.int .i64 base] := Rd.block (heap_alloc_new wz4 _) (by simp)
  have ps : w.heap.size + 1 ≤ (wz4.alloc (.cells #[.int .i64 base] 3)).heap.size := by have := k4.lt; simp; omega
  have p6 : 2 + 1 ≤ maxLen := by decide
  have p7 : (2 + 1) * 8 ≤ 140737488355328 := by decide
  have p8 : ∀ u ∈ [Value.int IntKind.i64 base], u.oneCell' = true := fun u hu => by rw [List.mem_singleton] at hu; subst hu; rfl
  go_upto_region 13 with (at_builtin; refine list_app _ rfl (.tmp 59) (.tmp 62) 69 rfl (w.heap.size + 1) 3 i0 _ 1 8 Tryz.underlying69 hi hz0 hz1 hz2 rfl Nat.one_pos _ _ _ rfl p1 _ 1 1 [.int .i64 base] rfl rfl pr p8 p6 p7 ps ?_; intro v5 wz5 o5 hg)
  obtain ⟨A5, c5, rfl, _⟩ := o5.form
  have k5 := p2.grown hg (fun e => by have := (p1.lt _ e).1; omega)
  have hB5 := p3.grown hg (Nat.le_trans (Nat.le_succ _) ps) (fun g hg => by have := (p1.lt g hg).1; omega)
  clear p1 p2 p3 pr ps p6 p7 p8 hg o4 k4 hB4
  have HR := Lib.hid (show R = [fn, -1, base] by rw [HD.out]; simp [altK, *])
  go_wp2_with fail
  go_ret
  exact OutI.of HR.out rfl (Own.row (p := [fn, -1, base]) o5) hB5
 have c0 : (shift == 0) = false := beq_false_of_ne hs0
 have c1 : (shift != 0) = true := by simp [bne, c0]
 go_wp2_with fail
 refine (HHS.out _).mono ?_
 rintro e w4 ⟨rfl, hb4⟩
 have k4 := k3.below hb4 k3.lt
 have o4 := o3.below hb4 (fun z hz => (o3.lt z hz).2)
 have hB4 := hB3.trans (hb4.mono hB3.size)
 clear k3 o3 hB3 hb4 HHS a0 a1 a3 a4
 have a0 := k4.cell 0
 have a4 := k4.cell 4
 cases s1 with
 | false =>
   by_cases hb0 : base = 0
   ·subst hb0
    have HR := Lib.hid (show R = [fn] by rw [HD.out]; simp [altK, *])
    go_wp2_with fail
    go_ret
    exact OutI.of HR.out rfl (Own.row (p := [fn]) o4) hB4
   have b0 : (base == 0) = false := beq_false_of_ne hb0
   have b1 : (base != 0) = true := by simp [bne, b0]
   by_cases hbc : base = code
   ·subst hbc
    have HR := Lib.hid (show R = [fn] by rw [HD.out]; simp [altK, *])
    go_wp2_with fail
    go_ret
    exact OutI.of HR.out rfl (Own.row (p := [fn]) o4) hB4
   have b2 : (base == code) = false := beq_false_of_ne hbc
   have b3 : (base != code) = true := by simp [bne, b2]
   have p1 := o4.alloc (.cells #[.int .i64 (-1)] 3)
   have p2 := k4.alloc (.cells #[.int .i64 (-1)] 3)
   have p3 := hB4.alloc hB4.size (.cells #[.int .i64 (-1)] 3)
   have pr : Rd (w4.alloc (.cells #[.int .i64 (-1)] 3)) (some ⟨w4.heap.size, 0, none⟩) [.int .i64 (-1)] := Rd.block (heap_alloc_new w4 _) (by simp)
   have ps : w.heap.size + 1 ≤ (w4.alloc (.cells #[.int .i64 (-1)] 3)).heap.size := by have := k4.lt; simp; omega
   have p6 : 1 + 1 ≤ maxLen := by decide
   have p7 : (1 + 1) * 8 ≤ 140737488355328 := by decide
   have p8 : ∀ u ∈ [Value.int IntKind.i64 (-1)], u.oneCell' = true := fun u hu => by rw [List.mem_singleton] at hu; subst hu; rfl
   go_upto_region 11 with (at_builtin; refine list_app _ rfl (.tmp 55) (.tmp 56) 69 rfl (w.heap.size + 1) 3 i0 _ 1 8 Tryz.underlying69 hi hz0 hz1 hz2 rfl Nat.one_pos _ _ _ rfl p1 _ 1 1 [.int .i64 (-1)] rfl rfl pr p8 p6 p7 ps ?_; intro v5 wz5 o5 hg)
   obtain ⟨A5, c5, rfl, _⟩ := o5.form
   have k5 := p2.grown hg (fun e => by have := (p1.lt _ e).1; omega)
   have hB5 := p3.grown hg (Nat.le_trans (Nat.le_succ _) ps) (fun g hg => by have := (p1.lt g hg).1; omega)
   clear p1 p2 p3 pr ps p6 p7 p8 hg o4 k4 hB4
   have a4 := k5.cell 4
   have p1 := o5.alloc (.cells #[.int .i64 base] 3)
   have p2 := k5.alloc (.cells #[.int .i64 base] 3)
   have p3 := hB5.alloc hB5.size (.cells #[.int .i64 base] 3)
   have pr : Rd (wz5.alloc (.cells #[.int .i64 base] 3)) (some ⟨wz5.heap.size, 0, none⟩) [.int .i64 base] := Rd.block (heap_alloc_new wz5 _) (by simp)
   have ps : w.heap.size + 1 ≤ (wz5.alloc (.cells #[.int .i64 base] 3)).heap.size := by have := k5.lt; simp; omega
   have p6 : 2 + 1 ≤ maxLen := by decide
   have p7 : (2 + 1) * 8 ≤ 140737488355328 := by decide
   have p8 : ∀ u ∈ [Value.int IntKind.i64 base], u.oneCell' = true := fun u hu => by rw [List.mem_singleton] at hu; subst hu; rfl
   go_upto_region 13 with (at_builtin; refine list_app _ rfl (.tmp 59) (.tmp 62) 69 rfl (w.heap.size + 1) 3 i0 _ 1 8 Tryz.underlying69 hi hz0 hz1 hz2 rfl Nat.one_pos _ _ _ rfl p1 _ 1 1 [.int .i64 base] rfl rfl pr p8 p6 p7 ps ?_; intro v6 wz6 o6 hg)
   obtain ⟨A6, c6, rfl, _⟩ := o6.form
   have k6 := p2.grown hg (fun e => by have := (p1.lt _ e).1; omega)
   have hB6 := p3.grown hg (Nat.le_trans (Nat.le_succ _) ps) (fun g hg => by have := (p1.lt g hg).1; omega)
   clear p1 p2 p3 pr ps p6 p7 p8 hg o5 k5 hB5
   have HR := Lib.hid (show R = [fn, -1, base] by rw [HD.out]; simp [altK, *])
   go_wp2_with fail
   go_ret
   exact OutI.of HR.out rfl (Own.row (p := [fn, -1, base]) o6) hB6
 | true =>
   by_cases hb0 : base = 0
   ·subst hb0
    have a3 := k4.cell 3
    have a4 := k4.cell 4
    have a0 := k4.cell 0
    have p1 := o4.alloc (.cells #[.int .i64 shift] 3)
    have p2 := k4.alloc (.cells #[.int .i64 shift] 3)
    have p3 := hB4.alloc hB4.size (.cells #[.int .i64 shift] 3)
    have pr : Rd (w4.alloc (.cells #[.int .i64 shift] 3)) (some ⟨w4.heap.size, 0, none⟩) [.int .i64 shift] := Rd.block (heap_alloc_new w4 _) (by simp)
    have ps : w.heap.size + 1 ≤ (w4.alloc (.cells #[.int .i64 shift] 3)).heap.size := by have := k4.lt; simp; omega
    have p6 : 1 + 1 ≤ maxLen := by decide
    have p7 : (1 + 1) * 8 ≤ 140737488355328 := by decide
    have p8 : ∀ u ∈ [Value.int IntKind.i64 shift], u.oneCell' = true := fun u hu => by rw [List.mem_singleton] at hu; subst hu; rfl
    go_upto_region 9 with (at_builtin; refine list_app _ rfl (.tmp 45) (.tmp 48) 69 rfl (w.heap.size + 1) 3 i0 _ 1 8 Tryz.underlying69 hi hz0 hz1 hz2 rfl Nat.one_pos _ _ _ rfl p1 _ 1 1 [.int .i64 shift] rfl rfl pr p8 p6 p7 ps ?_; intro v5 wz5 o5 hg)
    obtain ⟨A5, c5, rfl, _⟩ := o5.form
    have k5 := p2.grown hg (fun e => by have := (p1.lt _ e).1; omega)
    have hB5 := p3.grown hg (Nat.le_trans (Nat.le_succ _) ps) (fun g hg => by have := (p1.lt g hg).1; omega)
    clear p1 p2 p3 pr ps p6 p7 p8 hg o4 k4 hB4
    have HR := Lib.hid (show R = [fn, shift] by rw [HD.out]; simp [altK, *])
    go_wp2_with fail
    go_ret
    exact OutI.of HR.out rfl (Own.row (p := [fn, shift]) o5) hB5
   have b0 : (base == 0) = false := beq_false_of_ne hb0
   have b1 : (base != 0) = true := by simp [bne, b0]
   by_cases hbc : base = code
   ·subst hbc
    have a3 := k4.cell 3
    have a4 := k4.cell 4
    have a0 := k4.cell 0
    have p1 := o4.alloc (.cells #[.int .i64 shift] 3)
    have p2 := k4.alloc (.cells #[.int .i64 shift] 3)
    have p3 := hB4.alloc hB4.size (.cells #[.int .i64 shift] 3)
    have pr : Rd (w4.alloc (.cells #[.int .i64 shift] 3)) (some ⟨w4.heap.size, 0, none⟩) [.int .i64 shift] := Rd.block (heap_alloc_new w4 _) (by simp)
    have ps : w.heap.size + 1 ≤ (w4.alloc (.cells #[.int .i64 shift] 3)).heap.size := by have := k4.lt; simp; omega
    have p6 : 1 + 1 ≤ maxLen := by decide
    have p7 : (1 + 1) * 8 ≤ 140737488355328 := by decide
    have p8 : ∀ u ∈ [Value.int IntKind.i64 shift], u.oneCell' = true := fun u hu => by rw [List.mem_singleton] at hu; subst hu; rfl
    go_upto_region 9 with (at_builtin; refine list_app _ rfl (.tmp 45) (.tmp 48) 69 rfl (w.heap.size + 1) 3 i0 _ 1 8 Tryz.underlying69 hi hz0 hz1 hz2 rfl Nat.one_pos _ _ _ rfl p1 _ 1 1 [.int .i64 shift] rfl rfl pr p8 p6 p7 ps ?_; intro v5 wz5 o5 hg)
    obtain ⟨A5, c5, rfl, _⟩ := o5.form
    have k5 := p2.grown hg (fun e => by have := (p1.lt _ e).1; omega)
    have hB5 := p3.grown hg (Nat.le_trans (Nat.le_succ _) ps) (fun g hg => by have := (p1.lt g hg).1; omega)
    clear p1 p2 p3 pr ps p6 p7 p8 hg o4 k4 hB4
    have HR := Lib.hid (show R = [fn, shift] by rw [HD.out]; simp [altK, *])
    go_wp2_with fail
    go_ret
    exact OutI.of HR.out rfl (Own.row (p := [fn, shift]) o5) hB5
   have b2 : (base == code) = false := beq_false_of_ne hbc
   have b3 : (base != code) = true := by simp [bne, b2]
   have a3 := k4.cell 3
   have a4 := k4.cell 4
   have a0 := k4.cell 0
   have p1 := o4.alloc (.cells #[.int .i64 shift] 3)
   have p2 := k4.alloc (.cells #[.int .i64 shift] 3)
   have p3 := hB4.alloc hB4.size (.cells #[.int .i64 shift] 3)
   have pr : Rd (w4.alloc (.cells #[.int .i64 shift] 3)) (some ⟨w4.heap.size, 0, none⟩) [.int .i64 shift] := Rd.block (heap_alloc_new w4 _) (by simp)
   have ps : w.heap.size + 1 ≤ (w4.alloc (.cells #[.int .i64 shift] 3)).heap.size := by have := k4.lt; simp; omega
   have p6 : 1 + 1 ≤ maxLen := by decide
   have p7 : (1 + 1) * 8 ≤ 140737488355328 := by decide
   have p8 : ∀ u ∈ [Value.int IntKind.i64 shift], u.oneCell' = true := fun u hu => by rw [List.mem_singleton] at hu; subst hu; rfl
   go_upto_region 9 with (at_builtin; refine list_app _ rfl (.tmp 45) (.tmp 48) 69 rfl (w.heap.size + 1) 3 i0 _ 1 8 Tryz.underlying69 hi hz0 hz1 hz2 rfl Nat.one_pos _ _ _ rfl p1 _ 1 1 [.int .i64 shift] rfl rfl pr p8 p6 p7 ps ?_; intro v5 wz5 o5 hg)
   obtain ⟨A5, c5, rfl, _⟩ := o5.form
   have k5 := p2.grown hg (fun e => by have := (p1.lt _ e).1; omega)
   have hB5 := p3.grown hg (Nat.le_trans (Nat.le_succ _) ps) (fun g hg => by have := (p1.lt g hg).1; omega)
   clear p1 p2 p3 pr ps p6 p7 p8 hg o4 k4 hB4
   have a4 := k5.cell 4
   have p1 := o5.alloc (.cells #[.int .i64 base] 3)
   have p2 := k5.alloc (.cells #[.int .i64 base] 3)
   have p3 := hB5.alloc hB5.size (.cells #[.int .i64 base] 3)
   have pr : Rd (wz5.alloc (.cells #[.int .i64 base] 3)) (some ⟨wz5.heap.size, 0, none⟩) [.int .i64 base] := Rd.block (heap_alloc_new wz5 _) (by simp)
   have ps : w.heap.size + 1 ≤ (wz5.alloc (.cells #[.int .i64 base] 3)).heap.size := by have := k5.lt; simp; omega
   have p6 : 2 + 1 ≤ maxLen := by decide
   have p7 : (2 + 1) * 8 ≤ 140737488355328 := by decide
   have p8 : ∀ u ∈ [Value.int IntKind.i64 base], u.oneCell' = true := fun u hu => by rw [List.mem_singleton] at hu; subst hu; rfl
   go_upto_region 13 with (at_builtin; refine list_app _ rfl (.tmp 59) (.tmp 62) 69 rfl (w.heap.size + 1) 3 i0 _ 1 8 Tryz.underlying69 hi hz0 hz1 hz2 rfl Nat.one_pos _ _ _ rfl p1 _ 1 1 [.int .i64 base] rfl rfl pr p8 p6 p7 ps ?_; intro v6 wz6 o6 hg)
   obtain ⟨A6, c6, rfl, _⟩ := o6.form
   have k6 := p2.grown hg (fun e => by have := (p1.lt _ e).1; omega)
   have hB6 := p3.grown hg (Nat.le_trans (Nat.le_succ _) ps) (fun g hg => by have := (p1.lt g hg).1; omega)
   clear p1 p2 p3 pr ps p6 p7 p8 hg o5 k5 hB5
   have HR := Lib.hid (show R = [fn, shift, base] by rw [HD.out]; simp [altK, *])
   go_wp2_with fail
   go_ret
   exact OutI.of HR.out rfl (Own.row (p := [fn, shift, base]) o6) hB6
end Go.Proofs.YtdfojkbgdoiglaaGreatDoor
namespace Go.Proofs.YtdfojkbgdoiglaaGreatDoor
open Go.RowKit
theorem own_full {w : World} {base : Nat} {e : TypeId} {g n : Nat} {xs : List Value} {l : List Value} (h : Own w base e 1 (.slice (some ⟨g, 0, none⟩) n n) n xs) (hl : l.length = n) (hx : ∀ j, j < n → xs[j]? = l[j]?) : Rd w (some ⟨g, 0, none⟩) l := by
 have h1 := h.1
 have : xs = l := List.ext_getElem? fun j => by
  by_cases hj : j < n
  ·exact hx j hj
  ·rw [List.getElem?_eq_none (by omega), List.getElem?_eq_none (by omega)]
 subst this
 exact h.rd
set_option maxRecDepth 100000 in
set_option maxHeartbeats 8000000 in
theorem ptext_any (A : Option Addr) (c : Nat) (ps : List (List Int)) (w : World) (hp : parOk ps = true) (ht : Tab w) (hr : RdP w A ps) :
 Calls Tryz.prog 95 #[.slice A ps.length c] w fun e w' => e = .returned (.string ⟨(parL ps).toArray⟩) ∧ Below w.heap.size w w' := by
 obtain ⟨i0, hi, hz0, hz1, hz2⟩ : ∃ i, Tryz.prog.info? 9 = some i ∧ i.zero = some (.string ⟨#[]⟩) ∧ i.size = 1 ∧ i.bytes = 16 := ⟨_, rfl, rfl, rfl, rfl⟩
 obtain ⟨hl16, hp8⟩ := parOk_lens hp
 have HP8 := Lib.hid hp8
 obtain ⟨n, hn⟩ : ∃ n, ps.length = n := ⟨_, rfl⟩
 rw [hn] at hl16 ⊢
 have HN := Lib.hid hn
 have HP := Lib.hid hp
 clear hp hp8 hn
 go_enter Tryz.func95, Tryz.ntmps95
 go_wp2_with (first | (at_make; refine wpList_make_full _ rfl _ _ 115 rfl w.heap.size 9 i0 _ 1 Tryz.underlying115 hi hz0 hz1 _ _ _ _ n rfl rfl ?d0 ?d1 ?d2 ?d3 ?d4 ?_))
 case d0 => omega
 case d1 => omega
 case d2 => rw [hz2]; omega
 case d3 => simp only [maxLen]; omega
 case d4 => exact Nat.le_refl _
 intro w2 hown2 hg2
 have hb2 : Below w.heap.size w w2 := (Below.refl _ _).grown hg2 (Nat.le_refl _) (by simp)
 have ho2 := Own.of hown2
 have hlt2 : w.heap.size < w2.heap.size := (ho2.lt w.heap.size rfl).2
 clear hown2 hg2
 go_wp2_with fail
 go_loopw [14] (fun i wr => ∃ (k : Nat) (xs : List Value), k ≤ n ∧ i = .int .i64 k ∧ Own wr w.heap.size 9 1 (.slice (some ⟨w.heap.size, 0, none⟩) n n) n xs ∧ Below w.heap.size w wr ∧ Hid (∀ j, j < k → xs[j]? = (ss_ (ps.map partL))[j]?)) (fun i _ => n - (intOf i).toNat)
 case atStart => exact ⟨0, _, Nat.zero_le _, rfl, ho2, hb2, Lib.hid fun j h => absurd h (by omega)⟩
 case round =>
  obtain ⟨k, xs, hk, rfl, ho, hb, hdone⟩ := hrel
  clear ho2 hb2 hlt2
  have hltr : w.heap.size < wr.heap.size := (ho.lt w.heap.size rfl).2
  obtain ⟨wo, rfl⟩ : ∃ wo : World, wo = wr := ⟨_, rfl⟩
  by_cases hlt : k < n
  ·have hkn : k < ps.length := by rw [HN.out]; exact hlt
   obtain ⟨b, o, hA, hbA, hcc⟩ := (hr.below hb) (by omega)
   cases hA
   obtain ⟨A', c', hck, hrk⟩ := hcc k hkn
   obtain ⟨p, hp'⟩ : ∃ p, (ps[k]'hkn) = p := ⟨_, rfl⟩
   have hpl := HP8.out _ (List.getElem_mem hkn)
   rw [hp'] at hck hrk hpl
   have HPP := Lib.hid hp'
   clear hp' hcc
   obtain ⟨m, hm⟩ : ∃ m, p.length = m := ⟨_, rfl⟩
   rw [hm] at hck hpl
   have HM := Lib.hid hm
   obtain ⟨hm8, hpo⟩ := hpl
   have HPO := Lib.hid hpo
   clear hm hpo
   go_wp2_with (first | (at_make; refine wpList_make_full _ rfl _ _ 115 rfl wo.heap.size 9 i0 _ 1 Tryz.underlying115 hi hz0 hz1 _ _ _ _ m rfl rfl ?d0 ?d1 ?d2 ?d3 ?d4 ?_))
   case d0 => omega
   case d1 => omega
   case d2 => rw [hz2]; omega
   case d3 => simp only [maxLen]; omega
   case d4 => exact Nat.le_refl _
   intro w3 hown3 hg3
   have hb3 : Below wo.heap.size wo w3 := (Below.refl _ _).grown hg3 (Nat.le_refl _) (by simp)
   have ho3 := Own.of hown3
   clear hown3 hg3
   go_wp2_with fail
   go_loopw [24] (fun i wr => ∃ (j : Nat) (ys : List Value), j ≤ m ∧ i = .int .i64 j ∧ Own wr wo.heap.size 9 1 (.slice (some ⟨wo.heap.size, 0, none⟩) m m) m ys ∧ Below wo.heap.size wo wr ∧ Hid (∀ t, t < j → ys[t]? = (ss_ (p.map textL))[t]?)) (fun i _ => m - (intOf i).toNat)
   case atStart => exact ⟨0, _, Nat.zero_le _, rfl, ho3, hb3, Lib.hid fun j h => absurd h (by omega)⟩
   case round =>
    obtain ⟨j, ys, hj, rfl, hoi, hbi, hdi⟩ := hrel
    clear ho3 hb3
    have hlti : wo.heap.size < wr.heap.size := (hoi.lt wo.heap.size rfl).2
    by_cases hjm : j < m
    ·have hjp : j < p.length := by rw [HM.out]; exact hjm
     obtain ⟨b4, o4, hA4, hb4, hc4⟩ := (hrk.below hbi).int_at (by omega)
     cases hA4
     have hcj := hc4 j hjp
     obtain ⟨x, hx⟩ : ∃ x, p[j]'hjp = x := ⟨_, rfl⟩
     have hxr := HPO.out _ (List.getElem_mem hjp)
     rw [hx] at hcj hxr
     have HX := Lib.hid hx
     clear hx hc4
     obtain ⟨x0, x1⟩ := hxr
     go_wp2_with fail
     refine (text_any x _ (by omega) (by omega) (ht.below (hb.trans (hbi.mono hb.size)))).mono ?_
     rintro e w5 ⟨rfl, hb5⟩
     have ho5 := hoi.behind hb5
     have hyl : j < ys.length := by have := hoi.1; omega
     have hd1 := ho5.cellAt j hyl
     have hd2 := ho5.frozenAt j hyl
     have hbi5 : Below wo.heap.size wo w5 := hbi.trans (hb5.mono hbi.size)
     clear hb5 hcj
     go_wp2_with fail
     go_roundw
     case rel =>
      refine ⟨j + 1, _, by omega, by go_num, ho5.stored j _, hbi5.setCell (p := ⟨wo.heap.size, j, none⟩) (Nat.le_refl _) _, Lib.hid fun t ht => ?_⟩
      by_cases e : t = j
      ·subst e
       rw [List.getElem?_set_self hyl]
       simp [ss_, List.getElem?_eq_getElem hjp, HX.out]
      ·rw [List.getElem?_set_ne (fun h => e h.symm)]
       exact hdi.out t (by omega)
     case measure => simp [intOf]; omega
    ·have hrow := own_full hoi (l := ss_ (p.map textL)) (by simp [ss_, HM.out]) (fun t ht => hdi.out t (by omega))
     have hJ := Lib.hid (join_part p)
     have hlen := partL_len p HPO.out
     rw [HM.out] at hlen
     have hml := Lib.hid (show (p.map textL).length = m by rw [List.length_map]; exact HM.out)
     go_wp2_with fail
     refine (join_any (some ⟨wo.heap.size, 0, none⟩) m m (p.map textL) [58] (partL p) _ hml.out hJ.out (by omega) (Nat.le_refl _) (by omega) hrow).mono ?_
     rintro e w5 ⟨rfl, hb5⟩
     have hbi5 : Below wo.heap.size wo w5 := hbi.trans (hb5.mono hbi.size)
     have ho5 := ho.behind hbi5
     have hxl : k < xs.length := by have := ho.1; omega
     have hd1 := ho5.cellAt k hxl
     have hd2 := ho5.frozenAt k hxl
     have hb5' : Below w.heap.size w w5 := hb.trans (hbi5.mono hb.size)
     clear hb5 hrow
     go_wp2_with fail
     go_roundw
     case rel =>
      refine ⟨k + 1, _, by omega, by go_num, ho5.stored k _, hb5'.setCell (p := ⟨w.heap.size, k, none⟩) (Nat.le_refl _) _, Lib.hid fun t ht => ?_⟩
      by_cases e : t = k
      ·subst e
       rw [List.getElem?_set_self hxl]
       simp [ss_, List.getElem?_eq_getElem hkn, HPP.out]
      ·rw [List.getElem?_set_ne (fun h => e h.symm)]
       exact hdone.out t (by omega)
     case measure => simp [intOf]; omega
  ·have hrow := own_full ho (l := ss_ (ps.map partL)) (by simp [ss_, HN.out]) (fun t ht => hdone.out t (by omega))
   have hJ := Lib.hid (join_par ps)
   have hlen := parL_len ps HP8.out
   rw [HN.out] at hlen
   have hml := Lib.hid (show (ps.map partL).length = n by rw [List.length_map]; exact HN.out)
   go_wp2_with fail
   refine (join_any (some ⟨w.heap.size, 0, none⟩) n n (ps.map partL) [59] (parL ps) _ hml.out hJ.out (by omega) (Nat.le_refl _) (by omega) hrow).mono ?_
   rintro e w5 ⟨rfl, hb5⟩
   go_wp2_with fail
   go_ret
   exact ⟨rfl, hb.trans (hb5.mono hb.size)⟩
end Go.Proofs.YtdfojkbgdoiglaaGreatDoor
namespace Go.Proofs.YtdfojkbgdoiglaaGreatDoor
open Go.RowKit
def typeN (n : Int) : Bool := n == 1 || n == 2 || n == 3
theorem type_eq (n : Int) : typeN n = (!(decide (n < 1) || decide (3 < n))) := by
 unfold typeN
 rw [Bool.eq_iff_iff]
 simp only [Bool.or_eq_true, beq_iff_eq, Bool.not_eq_true', Bool.or_eq_false_iff, decide_eq_false_iff_not]
 omega
theorem are_eq (n : Int) : areN n = (!(decide (n < 0) || decide (255 < n))) := by
 unfold areN
 rw [Bool.eq_iff_iff]
 simp only [Bool.and_eq_true, decide_eq_true_eq, Bool.not_eq_true', Bool.or_eq_false_iff, decide_eq_false_iff_not]
 omega
set_option maxRecDepth 100000 in
theorem type_any (n : Int) (w : World) : Calls Tryz.prog 42 #[.int .i64 n] w fun e w' => e = .returned (.bool (typeN n)) ∧ Below w.heap.size w w' := by
 unfold typeN
 obtain ⟨a, ha⟩ : ∃ a, (n == 1) = a := ⟨_, rfl⟩
 obtain ⟨b, hb⟩ : ∃ a, (n == 2) = a := ⟨_, rfl⟩
 obtain ⟨c, hc⟩ : ∃ a, (n == 3) = a := ⟨_, rfl⟩
 rw [ha, hb, hc]
 go_enter Tryz.func42, Tryz.ntmps42
 cases a <;> cases b <;> cases c <;> (go_wp2_with fail; go_ret; exact ⟨rfl, Below.refl _ _⟩)
set_option maxRecDepth 100000 in
theorem tn_any (c : Int) (w : World) (hs : Siz w) (hR : Rws w) : Calls Tryz.prog 43 #[.int .i64 c] w fun e w' => e = .returned (.bool (c == 0 || textK c)) ∧ Below w.heap.size w w' := by
 obtain ⟨a, ha⟩ : ∃ a, (c == 0) = a := ⟨_, rfl⟩
 obtain ⟨ki, hki⟩ : ∃ q, (lookE c).kind = q := ⟨_, rfl⟩
 have hf : ∀ W : World, (Instr.field 41 (enV (lookE c)) 0).run Tryz.prog W = .ok (.int .i64 ki) W := fun W => by
  rw [← hki]
  exact (by kernel_rfl : (Instr.field 41 (enV (lookE c)) 0).run Tryz.prog W = .ok (.int .i64 (lookE c).kind) W)
 have hlook := plook_any c w hs hR
 have HT := Lib.hid (show textK c = (ki == 1) by unfold textK; rw [hki])
 obtain ⟨q, hq⟩ : ∃ q, (ki == 1) = q := ⟨_, rfl⟩
 rw [HT.out, ha, hq]
 obtain ⟨E, hE⟩ : ∃ E, enV (lookE c) = E := ⟨_, rfl⟩
 rw [hE] at hf hlook
 clear hE hki HT hs hR
 go_enter Tryz.func43, Tryz.ntmps43
 cases a with
 | true =>
   go_wp2_with fail
   go_ret
   exact ⟨rfl, Below.refl _ _⟩
 | false =>
   go_wp2_with fail
   refine hlook.mono ?_
   clear hlook
   rintro e w1 ⟨rfl, hb1⟩
   go_wp2_with fail
   go_ret
   exact ⟨rfl, hb1⟩
set_option maxRecDepth 100000 in
set_option maxHeartbeats 8000000 in
theorem pmods_may (k : Ky) (hs : k.text.size ≤ 4294967296) (w : World) (hz : Siz w) (hR : Rws w) : Calls Tryz.prog 15 #[kyV k] w fun e w' => e = .returned (.bool (mayK k)) ∧ Below w.heap.size w w' := by
 obtain ⟨code, mods, typ, shift, base, text⟩ := k
 simp only at hs
 have HLK : Hid (∀ W, Siz W → Rws W → Calls Tryz.prog 13 #[.int .i64 code] W fun e w' => e = .returned (enV (lookE code)) ∧ Below W.heap.size W w') := Lib.hid fun W a b => plook_any code W a b
 obtain ⟨ki, hki⟩ : ∃ q, (lookE code).kind = q := ⟨_, rfl⟩
 have hf : ∀ W : World, (Instr.field 41 (enV (lookE code)) 0).run Tryz.prog W = .ok (.int .i64 ki) W := fun W => by
  rw [← hki]
  exact (by kernel_rfl : (Instr.field 41 (enV (lookE code)) 0).run Tryz.prog W = .ok (.int .i64 (lookE code).kind) W)
 obtain ⟨n0, h0⟩ : ∃ a, (ki != 0) = a := ⟨_, rfl⟩
 obtain ⟨am, h1⟩ : ∃ a, areN mods = a := ⟨_, rfl⟩
 obtain ⟨ty, h2⟩ : ∃ a, typeN typ = a := ⟨_, rfl⟩
 obtain ⟨p, hp⟩ : ∃ a, (shift == 0 || textK shift) = a := ⟨_, rfl⟩
 obtain ⟨q, hq⟩ : ∃ a, (base == 0 || textK base) = a := ⟨_, rfl⟩
 obtain ⟨r, hr⟩ : ∃ a, cleanB text = a := ⟨_, rfl⟩
 have HM := Lib.hid (show mayK ⟨code, mods, typ, shift, base, text⟩ = (n0 && (am && (ty && (p && (q && r))))) by
  rw [← h0, ← hki, ← h1, ← h2, ← hp, ← hq, ← hr, are_eq, type_eq]
  show (!((lookE code).kind == 0 || decide (mods < 0) || decide (255 < mods) || decide (typ < 1) || decide (3 < typ)) && ((shift == 0 || textK shift) && (base == 0 || textK base) && cleanB text)) = _
  show _ = ((!((lookE code).kind == 0)) && _)
  generalize ((lookE code).kind == 0) = x1
  generalize decide (mods < 0) = x2
  generalize decide (255 < mods) = x3
  generalize decide (typ < 1) = x4
  generalize decide (3 < typ) = x5
  generalize (shift == 0 || textK shift) = x6
  generalize (base == 0 || textK base) = x7
  generalize cleanB text = x8
  revert x1 x2 x3 x4 x5 x6 x7 x8
  decide)
 have HA : Hid (∀ W, Calls Tryz.prog 41 #[.int .i64 mods] W fun e w' => e = .returned (.bool am) ∧ Below W.heap.size W w') := Lib.hid fun W => are_at h1 W
 have HT : Hid (∀ W, Calls Tryz.prog 42 #[.int .i64 typ] W fun e w' => e = .returned (.bool ty) ∧ Below W.heap.size W w') := Lib.hid fun W => by
  have := type_any typ W
  rwa [h2] at this
 have HP : Hid (∀ W, Siz W → Rws W → Calls Tryz.prog 43 #[.int .i64 shift] W fun e w' => e = .returned (.bool p) ∧ Below W.heap.size W w') := Lib.hid fun W a b => by
  have := tn_any shift W a b
  rwa [hp] at this
 have HQ : Hid (∀ W, Siz W → Rws W → Calls Tryz.prog 43 #[.int .i64 base] W fun e w' => e = .returned (.bool q) ∧ Below W.heap.size W w') := Lib.hid fun W a b => by
  have := tn_any base W a b
  rwa [hq] at this
 have HC : Hid (∀ W, Siz W → Calls Tryz.prog 44 #[.string text] W fun e w' => e = .returned (.bool r) ∧ Below W.heap.size W w') := Lib.hid fun W a => by
  have := pkeytext_any text hs W a
  rwa [hr] at this
 obtain ⟨E, hE⟩ : ∃ E, enV (lookE code) = E := ⟨_, rfl⟩
 rw [hE] at HLK hf
 rw [HM.out]
 clear hE hki hp hq hr hs HM h1 h2
 have hB := ky_box w ⟨code, mods, typ, shift, base, text⟩
 have k0 := Blk.new w 23 (kyC ⟨code, mods, typ, shift, base, text⟩)
 rw [kyV]
 rw [kyC] at hB k0
 simp only at hB k0 ⊢
 have hz0 := hz.below' hB
 have hR0 := hR.below hB
 have c0 := k0.cell 0
 go_enter Tryz.func15, Tryz.ntmps15
 go_wp2_with fail
 refine (HLK.out _ hz0 hR0).mono ?_
 rintro e w1 ⟨rfl, hb1⟩
 have k1 := k0.below hb1 k0.lt
 have hB1 := hB.trans (hb1.mono hB.size)
 clear HLK k0 hB hb1 c0 hz0 hR0
 have c1 := k1.cell 1
 cases n0 with
 | false =>
   go_wp2_with fail
   go_ret
   exact ⟨rfl, hB1⟩
 | true =>
 go_wp2_with fail
 refine (HA.out _).mono ?_
 rintro e w2 ⟨rfl, hb2⟩
 have k2 := k1.below hb2 k1.lt
 have hB2 := hB1.trans (hb2.mono hB1.size)
 clear HA k1 hB1 hb2 c1
 have c2 := k2.cell 2
 cases am with
 | false =>
   go_wp2_with fail
   go_ret
   exact ⟨rfl, hB2⟩
 | true =>
 go_wp2_with fail
 refine (HT.out _).mono ?_
 rintro e w3 ⟨rfl, hb3⟩
 have k3 := k2.below hb3 k2.lt
 have hB3 := hB2.trans (hb3.mono hB2.size)
 clear HT k2 hB2 hb3 c2
 have c3 := k3.cell 3
 cases ty with
 | false =>
   go_wp2_with fail
   go_ret
   exact ⟨rfl, hB3⟩
 | true =>
 go_wp2_with fail
 refine (HP.out _ (hz.below' hB3) (hR.below hB3)).mono ?_
 rintro e w4 ⟨rfl, hb4⟩
 have k4 := k3.below hb4 k3.lt
 have hB4 := hB3.trans (hb4.mono hB3.size)
 clear HP k3 hB3 hb4 c3
 have c4 := k4.cell 4
 cases p with
 | false =>
   go_wp2_with fail
   go_ret
   exact ⟨rfl, hB4⟩
 | true =>
 go_wp2_with fail
 refine (HQ.out _ (hz.below' hB4) (hR.below hB4)).mono ?_
 rintro e w5 ⟨rfl, hb5⟩
 have k5 := k4.below hb5 k4.lt
 have hB5 := hB4.trans (hb5.mono hB4.size)
 clear HQ k4 hB4 hb5 c4
 have c5 := k5.cell 5
 cases q with
 | false =>
   go_wp2_with fail
   go_ret
   exact ⟨rfl, hB5⟩
 | true =>
 go_wp2_with fail
 refine (HC.out _ (hz.below' hB5)).mono ?_
 rintro e w6 ⟨rfl, hb6⟩
 have hB6 := hB5.trans (hb6.mono hB5.size)
 clear HC k5 hB5 hb6 c5
 go_wp2_with fail
 go_ret
 exact ⟨rfl, hB6⟩
end Go.Proofs.YtdfojkbgdoiglaaGreatDoor
