/-
  Layer 13, walked: the document's first parameter. Layer 11, walked: the document's ahead and shown. Layer 11, walked: the document's plain keys, and functional ones.
-/
import Derived.Test.YtceipblcdcgljaaGreatDoorG04
import Derived.Test.YtceipblcdcgljaaGreatDoorG07
import Derived.Test.YtceipblcdcgljaaGreatDoorG09
import Derived.Test.YtceipblcdcgljaaGreatDoorG10
import Derived.Test.YtceipblcdcgljaaGreatDoorG13
import Derived.Test.YtceipblcdcgljaaGreatDoorG15
import Derived.Test.YtceipblcdcgljaaGreatDoorG18
import Derived.Test.YtceipblcdcgljaaGreatDoorG29
import Derived.Test.YtceipblcdcgljaaGreatDoorG30
import Derived.Test.YtceipblcdcgljaaGreatDoorG32
namespace Go.Proofs.YtceipblcdcgljaaGreatDoor
open Go.RowKit
set_option maxRecDepth 100000 in
set_option maxHeartbeats 8000000 in
theorem rfirst_any (f : Int) (k : Ky) (hm : k.mods ≤ 9223372036854775807) (w : World) : Calls Tryz.prog 86 #[.int .i64 f, kyV k] w (OutI (firstK f k) (firstK f k).length w) := by
 obtain ⟨i0, hi, hz0, hz1, hz2⟩ : ∃ i, Tryz.prog.info? 3 = some i ∧ i.zero = some (.int .i64 0) ∧ i.size = 1 ∧ i.bytes = 8 := ⟨_, rfl, rfl, rfl, rfl⟩
 obtain ⟨f4, hf4⟩ : ∃ b, flagK f 4 = b := ⟨_, rfl⟩
 obtain ⟨s1, hs1⟩ : ∃ b, hasN k.mods 1 = b := ⟨_, rfl⟩
 have HF4 : Hid (∀ W, Calls Tryz.prog 37 #[.int .i64 f, .int .i64 4] W fun e w' => e = .returned (.bool f4) ∧ Below W.heap.size W w') := Lib.hid fun W => by rw [← hf4]; exact rflag_any f 4 (by decide) (by decide) W
 have HHS : Hid (∀ W, Calls Tryz.prog 82 #[.int .i64 k.mods, .int .i64 1] W fun e w' => e = .returned (.bool s1) ∧ Below W.heap.size W w') := Lib.hid fun W => by rw [← hs1]; exact rhas10_any k.mods 1 (by decide) (by decide) hm W
 obtain ⟨⟨fn, ff⟩, hfr⟩ : ∃ x, frmK k.code = x := ⟨_, rfl⟩
 have HFR : Hid (∀ W, Calls Tryz.prog 85 #[.int .i64 k.code] W fun e w' => e = .returned (.tuple #[.int .i64 fn, .int .u8 ff]) ∧ Below W.heap.size W w') := Lib.hid fun W => by
  have := rfrm_any k.code W
  rw [hfr] at this
  exact this
 have HC := Lib.hid (show firstK f k = fn :: (if f4 = true ∧ ff = 117 then altK k.shift k.base k.code s1 else []) by unfold firstK; rw [hf4, hs1, hfr])
 obtain ⟨R, hR⟩ : ∃ R, firstK f k = R := ⟨_, rfl⟩
 rw [hR] at HC ⊢
 clear hf4 hs1 hfr hR hm
 obtain ⟨code, mods, typ, shift, base, text⟩ := k
 simp only [kyV] at HC HHS HFR ⊢
 have k0 := Blk.new w 25 #[.int .i64 code, .int .i64 mods, .int .i64 typ, .int .i64 shift, .int .i64 base, .string text]
 have hB : Below w.heap.size w (w.alloc (.cells #[.int .i64 code, .int .i64 mods, .int .i64 typ, .int .i64 shift, .int .i64 base, .string text] 25)) := (Below.refl _ w).alloc (Nat.le_refl _) _
 have a0 := k0.cell 0
 go_enter Tryz.func86, Tryz.ntmps86
 go_wp2_with fail
 refine (HFR.out _).mono ?_
 rintro e w1 ⟨rfl, hb1⟩
 have k1 := k0.below hb1 k0.lt
 have hB1 := hB.trans (hb1.mono hB.size)
 clear k0 hB hb1 a0 HFR
 have o1 := own_lit (w1.alloc (.cells #[.int .i64 fn] 3)) (w.heap.size + 1) 3 w1.heap.size (.int .i64 fn) (by have := k1.lt; omega) (heap_alloc_new w1 _)
 have k2 := k1.alloc (.cells #[.int .i64 fn] 3)
 have hB2 := hB1.alloc hB1.size (.cells #[.int .i64 fn] 3)
 go_upto_region 3 with (fail)
 generalize hW : w1.alloc (.cells #[.int .i64 fn] 3) = w2 at *
 clear hW
 generalize w1.heap.size = g1 at *
 clear k1 hB1
 go_wp2_with fail
 refine (HF4.out _).mono ?_
 rintro e w3 ⟨rfl, hb3⟩
 have k3 := k2.below hb3 k2.lt
 have o3 := o1.below hb3 (fun z hz => (o1.lt z hz).2)
 have hB3 := hB2.trans (hb3.mono hB2.size)
 clear k2 o1 hB2 hb3 HF4
 cases f4 with
 | false =>
   have HR := Lib.hid (show R = [fn] by rw [HC.out]; simp)
   clear HC
   go_wp2_with fail
   go_ret
   exact OutI.of HR.out rfl (Own.row (p := [fn]) o3) hB3
 | true =>
 by_cases hu : ff = 117
 rotate_left
 ·have t0 : (ff == 117) = false := beq_false_of_ne hu
  have t1 : (ff != 117) = true := by simp [bne, t0]
  have HR := Lib.hid (show R = [fn] by rw [HC.out, if_neg (fun e => hu e.2)])
  clear HC hu
  go_wp2_with fail
  go_ret
  exact OutI.of HR.out rfl (Own.row (p := [fn]) o3) hB3
 subst hu
 have HD := Lib.hid (show R = fn :: altK shift base code s1 by rw [HC.out]; simp)
 clear HC
 have a0 := k3.cell 0
 have a1 := k3.cell 1
 have a3 := k3.cell 3
 have a4 := k3.cell 4
 by_cases hs0 : shift = 0
 ·subst hs0
  by_cases hb0 : base = 0
  ·subst hb0
   have HR := Lib.hid (show R = [fn] by rw [HD.out]; simp [altK, *])
   go_wp2_with fail
   go_ret
   exact OutI.of HR.out rfl (Own.row (p := [fn]) o3) hB3
  have b0 : (base == 0) = false := beq_false_of_ne hb0
  have b1 : (base != 0) = true := by simp [bne, b0]
  by_cases hbc : base = code
  ·subst hbc
   have HR := Lib.hid (show R = [fn] by rw [HD.out]; simp [altK, *])
   go_wp2_with fail
   go_ret
   exact OutI.of HR.out rfl (Own.row (p := [fn]) o3) hB3
  have b2 : (base == code) = false := beq_false_of_ne hbc
  have b3 : (base != code) = true := by simp [bne, b2]
  have p1 := o3.alloc (.cells #[.int .i64 (-1)] 3)
  have p2 := k3.alloc (.cells #[.int .i64 (-1)] 3)
  have p3 := hB3.alloc hB3.size (.cells #[.int .i64 (-1)] 3)
  have pr : Rd (w3.alloc (.cells #[.int .i64 (-1)] 3)) (some ⟨w3.heap.size, 0, none⟩) [.int .i64 (-1)] := Rd.block (heap_alloc_new w3 _) (by simp)
  have ps : w.heap.size + 1 ≤ (w3.alloc (.cells #[.int .i64 (-1)] 3)).heap.size := by have := k3.lt; simp; omega
  have p6 : 1 + 1 ≤ maxLen := by decide
  have p7 : (1 + 1) * 8 ≤ 140737488355328 := by decide
  have p8 : ∀ u ∈ [Value.int IntKind.i64 (-1)], u.oneCell' = true := fun u hu => by rw [List.mem_singleton] at hu; subst hu; rfl
  go_upto_region 11 with (at_builtin; refine list_app _ rfl (.tmp 55) (.tmp 56) 57 rfl (w.heap.size + 1) 3 i0 _ 1 8 Tryz.underlying57 hi hz0 hz1 hz2 rfl Nat.one_pos _ _ _ rfl p1 _ 1 1 [.int .i64 (-1)] rfl rfl pr p8 p6 p7 ps ?_; intro v4 wz4 o4 hg)
  obtain ⟨A4, c4, rfl, _⟩ := o4.form
  have k4 := p2.grown hg (fun e => by have := (p1.lt _ e).1; omega)
  have hB4 := p3.grown hg (Nat.le_trans (Nat.le_succ _) ps) (fun g hg => by have := (p1.lt g hg).1; omega)
  clear p1 p2 p3 pr ps p6 p7 p8 hg o3 k3 hB3
  have a4 := k4.cell 4
  have p1 := o4.alloc (.cells #[.int .i64 base] 3)
  have p2 := k4.alloc (.cells #[.int .i64 base] 3)
  have p3 := hB4.alloc hB4.size (.cells #[.int .i64 base] 3)
  have pr : Rd (wz4.alloc (.cells #[.int .i64 base] 3)) (some ⟨wz4.heap.size, 0, none⟩) [.int .i64 base] := Rd.block (heap_alloc_new wz4 _) (by simp)
  have ps : w.heap.size + 1 ≤ (wz4.alloc (.cells #[.int .i64 base] 3)).heap.size := by have := k4.lt; simp; omega
  have p6 : 2 + 1 ≤ maxLen := by decide
  have p7 : (2 + 1) * 8 ≤ 140737488355328 := by decide
  have p8 : ∀ u ∈ [Value.int IntKind.i64 base], u.oneCell' = true := fun u hu => by rw [List.mem_singleton] at hu; subst hu; rfl
  go_upto_region 13 with (at_builtin; refine list_app _ rfl (.tmp 59) (.tmp 62) 57 rfl (w.heap.size + 1) 3 i0 _ 1 8 Tryz.underlying57 hi hz0 hz1 hz2 rfl Nat.one_pos _ _ _ rfl p1 _ 1 1 [.int .i64 base] rfl rfl pr p8 p6 p7 ps ?_; intro v5 wz5 o5 hg)
  obtain ⟨A5, c5, rfl, _⟩ := o5.form
  have k5 := p2.grown hg (fun e => by have := (p1.lt _ e).1; omega)
  have hB5 := p3.grown hg (Nat.le_trans (Nat.le_succ _) ps) (fun g hg => by have := (p1.lt g hg).1; omega)
  clear p1 p2 p3 pr ps p6 p7 p8 hg o4 k4 hB4
  have HR := Lib.hid (show R = [fn, -1, base] by rw [HD.out]; simp [altK, *])
  go_wp2_with fail
  go_ret
  exact OutI.of HR.out rfl (Own.row (p := [fn, -1, base]) o5) hB5
 have c0 : (shift == 0) = false := beq_false_of_ne hs0
 have c1 : (shift != 0) = true := by simp [bne, c0]
 go_wp2_with fail
 refine (HHS.out _).mono ?_
 rintro e w4 ⟨rfl, hb4⟩
 have k4 := k3.below hb4 k3.lt
 have o4 := o3.below hb4 (fun z hz => (o3.lt z hz).2)
 have hB4 := hB3.trans (hb4.mono hB3.size)
 clear k3 o3 hB3 hb4 HHS a0 a1 a3 a4
 have a0 := k4.cell 0
 have a4 := k4.cell 4
 cases s1 with
 | false =>
   by_cases hb0 : base = 0
   ·subst hb0
    have HR := Lib.hid (show R = [fn] by rw [HD.out]; simp [altK, *])
    go_wp2_with fail
    go_ret
    exact OutI.of HR.out rfl (Own.row (p := [fn]) o4) hB4
   have b0 : (base == 0) = false := beq_false_of_ne hb0
   have b1 : (base != 0) = true := by simp [bne, b0]
   by_cases hbc : base = code
   ·subst hbc
    have HR := Lib.hid (show R = [fn] by rw [HD.out]; simp [altK, *])
    go_wp2_with fail
    go_ret
    exact OutI.of HR.out rfl (Own.row (p := [fn]) o4) hB4
   have b2 : (base == code) = false := beq_false_of_ne hbc
   have b3 : (base != code) = true := by simp [bne, b2]
   have p1 := o4.alloc (.cells #[.int .i64 (-1)] 3)
   have p2 := k4.alloc (.cells #[.int .i64 (-1)] 3)
   have p3 := hB4.alloc hB4.size (.cells #[.int .i64 (-1)] 3)
   have pr : Rd (w4.alloc (.cells #[.int .i64 (-1)] 3)) (some ⟨w4.heap.size, 0, none⟩) [.int .i64 (-1)] := Rd.block (heap_alloc_new w4 _) (by simp)
   have ps : w.heap.size + 1 ≤ (w4.alloc (.cells #[.int .i64 (-1)] 3)).heap.size := by have := k4.lt; simp; omega
   have p6 : 1 + 1 ≤ maxLen := by decide
   have p7 : (1 + 1) * 8 ≤ 140737488355328 := by decide
   have p8 : ∀ u ∈ [Value.int IntKind.i64 (-1)], u.oneCell' = true := fun u hu => by rw [List.mem_singleton] at hu; subst hu; rfl
   go_upto_region 11 with (at_builtin; refine list_app _ rfl (.tmp 55) (.tmp 56) 57 rfl (w.heap.size + 1) 3 i0 _ 1 8 Tryz.underlying57 hi hz0 hz1 hz2 rfl Nat.one_pos _ _ _ rfl p1 _ 1 1 [.int .i64 (-1)] rfl rfl pr p8 p6 p7 ps ?_; intro v5 wz5 o5 hg)
   obtain ⟨A5, c5, rfl, _⟩ := o5.form
   have k5 := p2.grown hg (fun e => by have := (p1.lt _ e).1; omega)
   have hB5 := p3.grown hg (Nat.le_trans (Nat.le_succ _) ps) (fun g hg => by have := (p1.lt g hg).1; omega)
   clear p1 p2 p3 pr ps p6 p7 p8 hg o4 k4 hB4
   have a4 := k5.cell 4
   have p1 := o5.alloc (.cells #[.int .i64 base] 3)
   have p2 := k5.alloc (.cells #[.int .i64 base] 3)
   have p3 := hB5.alloc hB5.size (.cells #[.int .i64 base] 3)
   have pr : Rd (wz5.alloc (.cells #[.int .i64 base] 3)) (some ⟨wz5.heap.size, 0, none⟩) [.int .i64 base] := Rd.block (heap_alloc_new wz5 _) (by simp)
   have ps : w.heap.size + 1 ≤ (wz5.alloc (.cells #[.int .i64 base] 3)).heap.size := by have := k5.lt; simp; omega
   have p6 : 2 + 1 ≤ maxLen := by decide
   have p7 : (2 + 1) * 8 ≤ 140737488355328 := by decide
   have p8 : ∀ u ∈ [Value.int IntKind.i64 base], u.oneCell' = true := fun u hu => by rw [List.mem_singleton] at hu; subst hu; rfl
   go_upto_region 13 with (at_builtin; refine list_app _ rfl (.tmp 59) (.tmp 62) 57 rfl (w.heap.size + 1) 3 i0 _ 1 8 Tryz.underlying57 hi hz0 hz1 hz2 rfl Nat.one_pos _ _ _ rfl p1 _ 1 1 [.int .i64 base] rfl rfl pr p8 p6 p7 ps ?_; intro v6 wz6 o6 hg)
   obtain ⟨A6, c6, rfl, _⟩ := o6.form
   have k6 := p2.grown hg (fun e => by have := (p1.lt _ e).1; omega)
   have hB6 := p3.grown hg (Nat.le_trans (Nat.le_succ _) ps) (fun g hg => by have := (p1.lt g hg).1; omega)
   clear p1 p2 p3 pr ps p6 p7 p8 hg o5 k5 hB5
   have HR := Lib.hid (show R = [fn, -1, base] by rw [HD.out]; simp [altK, *])
   go_wp2_with fail
   go_ret
   exact OutI.of HR.out rfl (Own.row (p := [fn, -1, base]) o6) hB6
 | true =>
   by_cases hb0 : base = 0
   ·subst hb0
    have a3 := k4.cell 3
    have a4 := k4.cell 4
    have a0 := k4.cell 0
    have p1 := o4.alloc (.cells #[.int .i64 shift] 3)
    have p2 := k4.alloc (.cells #[.int .i64 shift] 3)
    have p3 := hB4.alloc hB4.size (.cells #[.int .i64 shift] 3)
    have pr : Rd (w4.alloc (.cells #[.int .i64 shift] 3)) (some ⟨w4.heap.size, 0, none⟩) [.int .i64 shift] := Rd.block (heap_alloc_new w4 _) (by simp)
    have ps : w.heap.size + 1 ≤ (w4.alloc (.cells #[.int .i64 shift] 3)).heap.size := by have := k4.lt; simp; omega
    have p6 : 1 + 1 ≤ maxLen := by decide
    have p7 : (1 + 1) * 8 ≤ 140737488355328 := by decide
    have p8 : ∀ u ∈ [Value.int IntKind.i64 shift], u.oneCell' = true := fun u hu => by rw [List.mem_singleton] at hu; subst hu; rfl
    go_upto_region 9 with (at_builtin; refine list_app _ rfl (.tmp 45) (.tmp 48) 57 rfl (w.heap.size + 1) 3 i0 _ 1 8 Tryz.underlying57 hi hz0 hz1 hz2 rfl Nat.one_pos _ _ _ rfl p1 _ 1 1 [.int .i64 shift] rfl rfl pr p8 p6 p7 ps ?_; intro v5 wz5 o5 hg)
    obtain ⟨A5, c5, rfl, _⟩ := o5.form
    have k5 := p2.grown hg (fun e => by have := (p1.lt _ e).1; omega)
    have hB5 := p3.grown hg (Nat.le_trans (Nat.le_succ _) ps) (fun g hg => by have := (p1.lt g hg).1; omega)
    clear p1 p2 p3 pr ps p6 p7 p8 hg o4 k4 hB4
    have HR := Lib.hid (show R = [fn, shift] by rw [HD.out]; simp [altK, *])
    go_wp2_with fail
    go_ret
    exact OutI.of HR.out rfl (Own.row (p := [fn, shift]) o5) hB5
   have b0 : (base == 0) = false := beq_false_of_ne hb0
   have b1 : (base != 0) = true := by simp [bne, b0]
   by_cases hbc : base = code
   ·subst hbc
    have a3 := k4.cell 3
    have a4 := k4.cell 4
    have a0 := k4.cell 0
    have p1 := o4.alloc (.cells #[.int .i64 shift] 3)
    have p2 := k4.alloc (.cells #[.int .i64 shift] 3)
    have p3 := hB4.alloc hB4.size (.cells #[.int .i64 shift] 3)
    have pr : Rd (w4.alloc (.cells #[.int .i64 shift] 3)) (some ⟨w4.heap.size, 0, none⟩) [.int .i64 shift] := Rd.block (heap_alloc_new w4 _) (by simp)
    have ps : w.heap.size + 1 ≤ (w4.alloc (.cells #[.int .i64 shift] 3)).heap.size := by have := k4.lt; simp; omega
    have p6 : 1 + 1 ≤ maxLen := by decide
    have p7 : (1 + 1) * 8 ≤ 140737488355328 := by decide
    have p8 : ∀ u ∈ [Value.int IntKind.i64 shift], u.oneCell' = true := fun u hu => by rw [List.mem_singleton] at hu; subst hu; rfl
    go_upto_region 9 with (at_builtin; refine list_app _ rfl (.tmp 45) (.tmp 48) 57 rfl (w.heap.size + 1) 3 i0 _ 1 8 Tryz.underlying57 hi hz0 hz1 hz2 rfl Nat.one_pos _ _ _ rfl p1 _ 1 1 [.int .i64 shift] rfl rfl pr p8 p6 p7 ps ?_; intro v5 wz5 o5 hg)
    obtain ⟨A5, c5, rfl, _⟩ := o5.form
    have k5 := p2.grown hg (fun e => by have := (p1.lt _ e).1; omega)
    have hB5 := p3.grown hg (Nat.le_trans (Nat.le_succ _) ps) (fun g hg => by have := (p1.lt g hg).1; omega)
    clear p1 p2 p3 pr ps p6 p7 p8 hg o4 k4 hB4
    have HR := Lib.hid (show R = [fn, shift] by rw [HD.out]; simp [altK, *])
    go_wp2_with fail
    go_ret
    exact OutI.of HR.out rfl (Own.row (p := [fn, shift]) o5) hB5
   have b2 : (base == code) = false := beq_false_of_ne hbc
   have b3 : (base != code) = true := by simp [bne, b2]
   have a3 := k4.cell 3
   have a4 := k4.cell 4
   have a0 := k4.cell 0
   have p1 := o4.alloc (.cells #[.int .i64 shift] 3)
   have p2 := k4.alloc (.cells #[.int .i64 shift] 3)
   have p3 := hB4.alloc hB4.size (.cells #[.int .i64 shift] 3)
   have pr : Rd (w4.alloc (.cells #[.int .i64 shift] 3)) (some ⟨w4.heap.size, 0, none⟩) [.int .i64 shift] := Rd.block (heap_alloc_new w4 _) (by simp)
   have ps : w.heap.size + 1 ≤ (w4.alloc (.cells #[.int .i64 shift] 3)).heap.size := by have := k4.lt; simp; omega
   have p6 : 1 + 1 ≤ maxLen := by decide
   have p7 : (1 + 1) * 8 ≤ 140737488355328 := by decide
   have p8 : ∀ u ∈ [Value.int IntKind.i64 shift], u.oneCell' = true := fun u hu => by rw [List.mem_singleton] at hu; subst hu; rfl
   go_upto_region 9 with (at_builtin; refine list_app _ rfl (.tmp 45) (.tmp 48) 57 rfl (w.heap.size + 1) 3 i0 _ 1 8 Tryz.underlying57 hi hz0 hz1 hz2 rfl Nat.one_pos _ _ _ rfl p1 _ 1 1 [.int .i64 shift] rfl rfl pr p8 p6 p7 ps ?_; intro v5 wz5 o5 hg)
   obtain ⟨A5, c5, rfl, _⟩ := o5.form
   have k5 := p2.grown hg (fun e => by have := (p1.lt _ e).1; omega)
   have hB5 := p3.grown hg (Nat.le_trans (Nat.le_succ _) ps) (fun g hg => by have := (p1.lt g hg).1; omega)
   clear p1 p2 p3 pr ps p6 p7 p8 hg o4 k4 hB4
   have a4 := k5.cell 4
   have p1 := o5.alloc (.cells #[.int .i64 base] 3)
   have p2 := k5.alloc (.cells #[.int .i64 base] 3)
   have p3 := hB5.alloc hB5.size (.cells #[.int .i64 base] 3)
   have pr : Rd (wz5.alloc (.cells #[.int .i64 base] 3)) (some ⟨wz5.heap.size, 0, none⟩) [.int .i64 base] := Rd.block (heap_alloc_new wz5 _) (by simp)
   have ps : w.heap.size + 1 ≤ (wz5.alloc (.cells #[.int .i64 base] 3)).heap.size := by have := k5.lt; simp; omega
   have p6 : 2 + 1 ≤ maxLen := by decide
   have p7 : (2 + 1) * 8 ≤ 140737488355328 := by decide
   have p8 : ∀ u ∈ [Value.int IntKind.i64 base], u.oneCell' = true := fun u hu => by rw [List.mem_singleton] at hu; subst hu; rfl
   go_upto_region 13 with (at_builtin; refine list_app _ rfl (.tmp 59) (.tmp 62) 57 rfl (w.heap.size + 1) 3 i0 _ 1 8 Tryz.underlying57 hi hz0 hz1 hz2 rfl Nat.one_pos _ _ _ rfl p1 _ 1 1 [.int .i64 base] rfl rfl pr p8 p6 p7 ps ?_; intro v6 wz6 o6 hg)
   obtain ⟨A6, c6, rfl, _⟩ := o6.form
   have k6 := p2.grown hg (fun e => by have := (p1.lt _ e).1; omega)
   have hB6 := p3.grown hg (Nat.le_trans (Nat.le_succ _) ps) (fun g hg => by have := (p1.lt g hg).1; omega)
   clear p1 p2 p3 pr ps p6 p7 p8 hg o5 k5 hB5
   have HR := Lib.hid (show R = [fn, shift, base] by rw [HD.out]; simp [altK, *])
   go_wp2_with fail
   go_ret
   exact OutI.of HR.out rfl (Own.row (p := [fn, shift, base]) o6) hB6
theorem bs_esc (L : List UInt8) : bs (27 :: L) = [.int .u8 27] ++ bs L := rfl
set_option maxRecDepth 100000 in
set_option maxHeartbeats 4000000 in
theorem rahead_any (k : Ky) (hk : okK k) (L : List UInt8) (n : Nat) (hn : L.length = n) (hl : n ≤ 17179869184) (A : Option Addr) (c : Nat) (w : World) (hr : Rd w A (bs L)) :
 Calls Tryz.prog 48 #[kyV k, .slice A n c] w (Out (aheadG (hasN k.mods 2) L) w) := by
 have HN := Lib.hid hn
 have hB := ky_box w k
 have hhas := rhas10_any k.mods 2 (by decide) (by decide) hk.mods.2 (w.alloc (.cells (kyC k) 25))
 have k0 := Blk.new w 25 (kyC k)
 obtain ⟨p, hp⟩ : ∃ p, hasN k.mods 2 = p := ⟨_, rfl⟩
 rw [hp] at hhas
 rw [hp]
 clear hp hk hn
 rw [kyV]
 rw [kyC] at hB hhas k0
 obtain ⟨code, mods, typ, shift, base, text⟩ := k
 simp only at hB hhas k0 ⊢
 obtain ⟨i0, hi, hz0, hz1, hz2⟩ : ∃ i, Tryz.prog.info? 5 = some i ∧ i.zero = some (.int .u8 0) ∧ i.size = 1 ∧ i.bytes = 1 := ⟨_, rfl, rfl, rfl, rfl⟩
 have a1 := k0.cell 1
 go_enter Tryz.func48, Tryz.ntmps48
 go_wp2_with fail
 refine hhas.mono ?_
 clear hhas
 rintro e w1 ⟨rfl, hb1⟩
 have hB1 := hB.trans (hb1.mono hB.size)
 have hr1 := hr.below hB1
 clear k0 hB hb1 a1
 cases p with
 | false =>
   go_wp2_with fail
   go_ret
   exact out_same HN.out hr1 hB1
 | true =>
   have hB2 := hB1.alloc hB1.size (.cells #[.int .u8 27] 5)
   have hown := own_lit (w1.alloc (.cells #[.int .u8 27] 5)) w.heap.size 5 w1.heap.size (.int .u8 27) hB1.size (heap_alloc_new w1 _)
   have hr2 := hr1.alloc (.cells #[.int .u8 27] 5)
   have h63 : 1 + n ≤ maxLen := by simp only [maxLen]; omega
   have hlim : (1 + n) * 1 ≤ 140737488355328 := by omega
   have hbs := hB2.size
   clear hB1 hr1
   go_wp2_with (first | (at_builtin; refine list_app _ rfl (.tmp 11) (.tmp 12) 27 rfl w.heap.size 5 i0 _ 1 1 Tryz.underlying27 hi hz0 hz1 hz2 rfl Nat.one_pos _ _ _ rfl hown _ n c (bs L) rfl (by rw [bs_length, HN.out]; omega) hr2 (bs_one L) h63 hlim hbs ?_; intro v4 w4 hown4 hg4))
   go_ret
   have hb4 : Below w.heap.size w w4 := hB2.grown hg4 hbs (fun g hg => (hown.lt g hg).1)
   rw [← bs_esc] at hown4
   exact out_own hown4 hb4
set_option maxRecDepth 100000 in
set_option maxHeartbeats 4000000 in
theorem rshown11_any (k : Ky) (hk : okK k) (hs : k.text.size ≤ 4294967296) (w : World) :
 Calls Tryz.prog 49 #[kyV k] w (Out (shownG k.code k.shift (hasN k.mods 1) (hasN k.mods 4) k.text.data.toList) w) := by
 have hB := ky_box w k
 have hhas := rhas10_any k.mods 4 (by decide) (by decide) hk.mods.2 (w.alloc (.cells (kyC k) 25))
 have k0 := Blk.new w 25 (kyC k)
 have HSH : Hid (∀ W, Calls Tryz.prog 41 #[kyV k] W fun e w' => e = .returned (.int .i64 (shownC k.code k.shift (hasN k.mods 1))) ∧ Below W.heap.size W w') := Lib.hid fun W => by rw [← shownK_eq]; exact rshown_any k hk W
 obtain ⟨p, hp⟩ : ∃ p, hasN k.mods 4 = p := ⟨_, rfl⟩
 obtain ⟨C, hC⟩ : ∃ C, shownC k.code k.shift (hasN k.mods 1) = C := ⟨_, rfl⟩
 obtain ⟨R, hR⟩ : ∃ R, shownG k.code k.shift (hasN k.mods 1) p k.text.data.toList = R := ⟨_, rfl⟩
 have HG := Lib.hid (show R = if p = false ∧ k.text.data.toList ≠ [] then k.text.data.toList else if (p && (foldN C).2) = true then [byt (foldN C).1] else putL C by rw [← hR]; unfold shownG; rw [hC])
 rw [hp] at hhas
 rw [hp, hR]
 rw [hC] at HSH
 clear hp hk hC hR
 rw [kyV] at HSH ⊢
 rw [kyC] at hB hhas k0
 obtain ⟨code, mods, typ, shift, base, text⟩ := k
 simp only at hB hhas k0 HSH HG hs ⊢
 obtain ⟨a0, a1, a2, a3, a4, a5⟩ := Blk.cells6 k0
 go_enter Tryz.func49, Tryz.ntmps49
 go_wp2_with fail
 refine hhas.mono ?_
 clear hhas
 rintro e w1 ⟨rfl, hb1⟩
 have k1 := k0.below hb1 k0.lt
 have hB1 := hB.trans (hb1.mono hB.size)
 clear k0 hB hb1 a0 a1 a2 a3 a4 a5
 obtain ⟨a0, a1, a2, a3, a4, a5⟩ := Blk.cells6 k1
 have hm : text.size ≤ maxLen := by simp only [maxLen]; omega
 obtain ⟨⟨F, b⟩, hF⟩ : ∃ F, foldN C = F := ⟨_, rfl⟩
 have HF : Hid (∀ W, Calls Tryz.prog 88 #[.int .i64 C] W fun e w' => e = .returned (.tuple #[.int .i64 F, .bool b]) ∧ Below W.heap.size W w') := Lib.hid fun W => by
  have := rfold_any C W
  rwa [hF] at this
 have hrng := (fold_rng C).1
 rw [hF] at hrng
 simp only at hrng
 rw [hF] at HG
 simp only at HG
 clear hF
 cases p with
 | false =>
   by_cases hne : text.data.toList = []
   ·obtain rfl : text = ⟨#[]⟩ := by apply ByteArray.ext; simpa using hne
    have HE := Lib.hid (HG.out.trans ((if_neg (fun h => h.2 rfl)).trans (if_neg (by simp))))
    clear HG
    go_wp2_with fail
    refine (HSH.out _).mono ?_
    rintro e w2 ⟨rfl, hb2⟩
    have hB2 := hB1.trans (hb2.mono hB1.size)
    clear hB1 hb2 k1 a0 a1 a2 a3 a4 a5
    go_wp2_with fail
    refine (HF.out _).mono ?_
    rintro e w3 ⟨rfl, hb3⟩
    have hB3 := hB2.trans (hb3.mono hB2.size)
    clear hB2 hb3
    go_wp2_with fail
    refine (rPut_any C _).mono ?_
    rintro e w4 ⟨A, c, rfl, hr4, hb4⟩
    go_wp2_with fail
    go_ret
    exact out_is HE.out ⟨A, c, rfl, hr4, hB3.trans (hb4.mono hB3.size)⟩
   ·have tl : text.toList.isEmpty = false := text_full hne
    have HE := Lib.hid (HG.out.trans (if_pos ⟨rfl, hne⟩))
    clear HG hne
    have hs1 := hB1.size
    go_wp2_with (first | ((with_reducible refine list_conv _ rfl (.tmp 18) 9 27 rfl w.heap.size 5 text ?_ Tryz.underlying9 Tryz.underlying27 Tryz.underlying5 hm hs1 ?_); rfl; intro v2 w2 hown2 hg2))
    go_ret
    exact out_is HE.out (out_own hown2 (hB1.trans ((below_none hg2).mono hB1.size)))
 | true =>
   cases b with
   | true =>
     obtain ⟨f0, f1⟩ := hrng rfl
     have g1 : F < 256 := by omega
     have HE := Lib.hid (HG.out.trans ((if_neg (fun h => by cases h.1)).trans (if_pos rfl)))
     clear HG hrng
     go_wp2_with fail
     refine (HSH.out _).mono ?_
     rintro e w2 ⟨rfl, hb2⟩
     have hB2 := hB1.trans (hb2.mono hB1.size)
     clear hB1 hb2 k1 a0 a1 a2 a3 a4 a5
     go_wp2_with fail
     refine (HF.out _).mono ?_
     rintro e w3 ⟨rfl, hb3⟩
     have hB3 := hB2.trans (hb3.mono hB2.size)
     clear hB2 hb3
     have hw8 : IntKind.u8.wrap F = F := IntWalk.u8_in F ⟨f0, by omega⟩
     go_wp2_with fail
     go_ret
     exact out_is HE.out (out_one F f0 g1 hB3)
   | false =>
     have HE := Lib.hid (HG.out.trans ((if_neg (fun h => by cases h.1)).trans (if_neg (by simp))))
     clear HG hrng
     go_wp2_with fail
     refine (HSH.out _).mono ?_
     rintro e w2 ⟨rfl, hb2⟩
     have hB2 := hB1.trans (hb2.mono hB1.size)
     clear hB1 hb2 k1 a0 a1 a2 a3 a4 a5
     go_wp2_with fail
     refine (HF.out _).mono ?_
     rintro e w3 ⟨rfl, hb3⟩
     have hB3 := hB2.trans (hb3.mono hB2.size)
     clear hB2 hb3
     go_wp2_with fail
     refine (rPut_any C _).mono ?_
     rintro e w4 ⟨A, c, rfl, hr4, hb4⟩
     go_wp2_with fail
     go_ret
     exact out_is HE.out ⟨A, c, rfl, hr4, hB3.trans (hb4.mono hB3.size)⟩
theorem Blk.drew {w : World} {g : Nat} {t : TypeId} {cs : Array Value} (h : Blk w g t cs) : Blk w.drew g t cs := h
theorem out_step {L : List UInt8} {w w1 w' : World} {e : Ending} (hb : Below w.heap.size w w1) (h : Out L w1 e w') : Out L w e w' := by
 obtain ⟨A, c, he, hr, hb'⟩ := h
 exact ⟨A, c, he, hr, hb.trans (hb'.mono hb.size)⟩
theorem out_two {w w1 : World} {t : TypeId} : Below w.heap.size w w1 → Out [13, 10] w (.returned (.slice (some ⟨w1.heap.size, 0, none⟩) 2 2)) (w1.alloc (.cells #[.int .u8 13, .int .u8 10] t)) := fun hb =>
 ⟨_, _, rfl, Rd.block (heap_alloc_new w1 _) rfl, hb.alloc hb.size _⟩
theorem out_one_at {w w1 : World} {t : TypeId} {g : Nat} (hg : w1.heap.size = g) (x : Int) (h0 : 0 ≤ x) (h1 : x < 256) (hb : Below w.heap.size w w1) : Out [byt x] w (.returned (.slice (some ⟨g, 0, none⟩) 1 1)) (w1.alloc (.cells #[.int .u8 x] t)) := by
 subst hg
 exact out_one x h0 h1 hb
theorem out_two_at {w w1 : World} {t : TypeId} {g : Nat} (hg : w1.heap.size = g) (hb : Below w.heap.size w w1) : Out [13, 10] w (.returned (.slice (some ⟨g, 0, none⟩) 2 2)) (w1.alloc (.cells #[.int .u8 13, .int .u8 10] t)) := by
 subst hg
 exact out_two hb
set_option maxRecDepth 100000 in
set_option maxHeartbeats 4000000 in
theorem rplain11_any (m : Mo) (k : Ky) (hk : okK k) (w : World) :
 Calls Tryz.prog 50 #[moV m, kyV k] w (Out (plainG m k.code (hasN k.mods 1) (hasN k.mods 4)) w) := by
 have hB0 : Below w.heap.size w ((w.alloc (.cells #[.bool m.cursor, .bool m.keypad, .bool m.back, .bool m.focus, .bool m.paste, .bool m.lock, .bool m.line, .int .i64 m.mouse, .int .i64 m.coding, .int .i64 m.other] 23)).alloc (.cells (kyC k) 25)) := ((Below.refl _ w).alloc (Nat.le_refl _) _).alloc (by simp) _
 have k2 := (Blk.new w 23 #[.bool m.cursor, .bool m.keypad, .bool m.back, .bool m.focus, .bool m.paste, .bool m.lock, .bool m.line, .int .i64 m.mouse, .int .i64 m.coding, .int .i64 m.other]).alloc (.cells (kyC k) 25)
 have k3 := Blk.new (w.alloc (.cells #[.bool m.cursor, .bool m.keypad, .bool m.back, .bool m.focus, .bool m.paste, .bool m.lock, .bool m.line, .int .i64 m.mouse, .int .i64 m.coding, .int .i64 m.other] 23)) 25 (kyC k)
 rw [World.size_alloc] at k3
 have H1 : Hid (∀ W, Calls Tryz.prog 82 #[.int .i64 k.mods, .int .i64 1] W fun e w' => e = .returned (.bool (hasN k.mods 1)) ∧ Below W.heap.size W w') := Lib.hid fun W => rhas10_any k.mods 1 (by decide) (by decide) hk.mods.2 W
 have H4 : Hid (∀ W, Calls Tryz.prog 82 #[.int .i64 k.mods, .int .i64 4] W fun e w' => e = .returned (.bool (hasN k.mods 4)) ∧ Below W.heap.size W w') := Lib.hid fun W => rhas10_any k.mods 4 (by decide) (by decide) hk.mods.2 W
 obtain ⟨p, hp⟩ : ∃ p, hasN k.mods 1 = p := ⟨_, rfl⟩
 obtain ⟨q, hq⟩ : ∃ p, hasN k.mods 4 = p := ⟨_, rfl⟩
 obtain ⟨R, hR⟩ : ∃ R, plainG m k.code p q = R := ⟨_, rfl⟩
 have HG := Lib.hid (show R = if k.code = 9 then (if p = true then seqB 1 90 [] else [9]) else if k.code = 13 then (if m.line = true then [13, 10] else [13]) else if k.code = 27 then [27] else if (m.back != q) = true then [8] else [127] by rw [← hR]; rfl)
 rw [hp] at H1
 rw [hq] at H4
 rw [hp, hq, hR]
 clear hp hq hR hk
 rw [kyV, moV]
 rw [kyC] at hB0 k2 k3
 obtain ⟨code, mods, typ, shift, base, text⟩ := k
 obtain ⟨m0, m1, m2, m3, m4, m5, m6, m7, m8, m9⟩ := m
 simp only at hB0 k2 k3 HG H1 H4 ⊢
 obtain ⟨a0, a1, a2, a3, a4, a5⟩ := Blk.cells6 k3
 obtain ⟨c0, c1, c2, c3, c4, c5, c6, c7, c8, c9⟩ := Blk.cells10 k2
 by_cases h9 : code = 9
 ·subst h9
  have HG := HG.out.trans (if_pos rfl)
  cases p with
  | true =>
    have E := Lib.hid (HG.trans (if_pos rfl))
    clear HG
    go_enter Tryz.func50, Tryz.ntmps50
    go_wp2_with fail
    refine (H1.out _).mono ?_
    rintro e w1 ⟨rfl, hb1⟩
    have hB1 := hB0.trans (hb1.mono hB0.size)
    go_wp2_with fail
    refine (rseq11_any 1 90 (by decide) (by decide) none [] 0 0 rfl (by decide) _ (Rd.nil _ _)).mono ?_
    rintro e w2 ⟨A, c, rfl, hr2, hb2⟩
    go_wp2_with fail
    go_ret
    exact out_is E.out ⟨A, c, rfl, hr2, hB1.trans (hb2.mono hB1.size)⟩
  | false =>
    have E := Lib.hid (HG.trans (if_neg (by decide)))
    clear HG
    go_enter Tryz.func50, Tryz.ntmps50
    go_wp2_with fail
    refine (H1.out _).mono ?_
    rintro e w1 ⟨rfl, hb1⟩
    have hB1 := hB0.trans (hb1.mono hB0.size)
    go_wp2_with fail
    go_ret
    exact out_is E.out (out_one 9 (by decide) (by decide) hB1)
 ·have t9 : (code == 9) = false := beq_false_of_ne h9
  have HA := Lib.hid (HG.out.trans (if_neg h9))
  clear h9 HG
  by_cases h13 : code = 13
  ·subst h13
   have HB := Lib.hid (HA.out.trans (if_pos rfl))
   clear HA
   cases m6 with
   | true =>
     have E := Lib.hid (HB.out.trans (if_pos rfl))
     clear HB
     go_enter Tryz.func50, Tryz.ntmps50
     go_wp2_with fail
     go_ret
     exact out_is E.out (out_two_at (by simp) hB0)
   | false =>
     have E := Lib.hid (HB.out.trans (if_neg (by decide)))
     clear HB
     go_enter Tryz.func50, Tryz.ntmps50
     go_wp2_with fail
     go_ret
     exact out_is E.out (out_one_at (by simp) 13 (by decide) (by decide) hB0)
  ·have t13 : (code == 13) = false := beq_false_of_ne h13
   have HB := Lib.hid (HA.out.trans (if_neg h13))
   clear h13 HA
   by_cases h27 : code = 27
   ·subst h27
    have E := Lib.hid (HB.out.trans (if_pos rfl))
    clear HB
    go_enter Tryz.func50, Tryz.ntmps50
    go_wp2_with fail
    go_ret
    exact out_is E.out (out_one_at (by simp) 27 (by decide) (by decide) hB0)
   ·have t27 : (code == 27) = false := beq_false_of_ne h27
    have HD := Lib.hid (HB.out.trans (if_neg h27))
    clear h27 HB
    cases m2 with
    | true =>
      cases q with
      | true =>
        have E := Lib.hid (HD.out.trans (if_neg (by decide)))
        clear HD
        go_enter Tryz.func50, Tryz.ntmps50
        go_wp2_with fail
        go_region_with (go_at_call 82; refine (H4.out _).mono ?_; rintro e w1 ⟨rfl, hb1⟩; have q2 := (k2.drew.below hb1 k2.lt).cell 2)
        all_goals
         have hB1 := hB0.drew.trans (hb1.mono hB0.size)
         go_wp2_with fail
         go_ret
         exact out_is E.out (out_one 127 (by decide) (by decide) hB1)
      | false =>
        have E := Lib.hid (HD.out.trans (if_pos rfl))
        clear HD
        go_enter Tryz.func50, Tryz.ntmps50
        go_wp2_with fail
        go_region_with (go_at_call 82; refine (H4.out _).mono ?_; rintro e w1 ⟨rfl, hb1⟩; have q2 := (k2.drew.below hb1 k2.lt).cell 2)
        all_goals
         have hB1 := hB0.drew.trans (hb1.mono hB0.size)
         go_wp2_with fail
         go_ret
         exact out_is E.out (out_one 8 (by decide) (by decide) hB1)
    | false =>
      cases q with
      | true =>
        have E := Lib.hid (HD.out.trans (if_pos rfl))
        clear HD
        go_enter Tryz.func50, Tryz.ntmps50
        go_wp2_with fail
        go_region_with (go_at_call 82; refine (H4.out _).mono ?_; rintro e w1 ⟨rfl, hb1⟩; have q2 := (k2.drew.below hb1 k2.lt).cell 2)
        all_goals
         have hB1 := hB0.drew.trans (hb1.mono hB0.size)
         go_wp2_with fail
         go_ret
         exact out_is E.out (out_one 8 (by decide) (by decide) hB1)
      | false =>
        have E := Lib.hid (HD.out.trans (if_neg (by decide)))
        clear HD
        go_enter Tryz.func50, Tryz.ntmps50
        go_wp2_with fail
        go_region_with (go_at_call 82; refine (H4.out _).mono ?_; rintro e w1 ⟨rfl, hb1⟩; have q2 := (k2.drew.below hb1 k2.lt).cell 2)
        all_goals
         have hB1 := hB0.drew.trans (hb1.mono hB0.size)
         go_wp2_with fail
         go_ret
         exact out_is E.out (out_one 127 (by decide) (by decide) hB1)
end Go.Proofs.YtceipblcdcgljaaGreatDoor
