/-
  Stage 18's laws, walked: StyleNone, case 4.
-/
import Derived.Test.YthcafgningpdnaaDoorG32
import Derived.Deep.Cut
namespace Go.Proofs.YthcafgningpdnaaDoor
open Go.RowKit
set_option maxRecDepth 100000 in
set_option maxHeartbeats 16000000 in
theorem sNone_3 (s : Sy) (hs : okSy s) (n : Int) (n0 : -9223372036854775808 ≤ n) (n1 : n ≤ 9223372036854775807) (x y z t : Int) (hx : in18 x) (hy : in18 y) (hz : in18 z) (ht0 : in18 t) (w : World) (ht : Tab w) (hc : n = 6) : Calls Tryd.prog 8 #[syV s, .int .i64 n, .agg #[.int .i64 x, .int .i64 y, .int .i64 z, .int .i64 t]] w fun e w' => e = .returned (.bool true) ∧ Below w.heap.size w w' := by
 obtain ⟨r, hr⟩ : ∃ r, setY s [n] = r := ⟨_, rfl⟩
 obtain ⟨X, hX⟩ : ∃ X, X = (if byteY y = true ∧ byteY z = true ∧ byteY t = true then 256 + 65536 * y + 256 * z + t else s.fore) := ⟨_, rfl⟩
 have HA1 : Hid (∀ (W : World) (C : Option Addr), LsIn W C [[n]] → Calls Tryd.prog 18 #[syV s, .slice C 1 1] W fun e w' => e = .returned (syV r) ∧ Below W.heap.size W w') := Lib.hid fun W C hl => by rw [← hr]; exact sApply_any s C [[n]] 1 1 rfl (by decide) W hl
 have HA2 : Hid (∀ (W : World) (C : Option Addr), LsIn W C [[38, 2, x, y, z, t]] → Calls Tryd.prog 18 #[syV s, .slice C 1 1] W fun e w' => e = .returned (syV { s with fore := X }) ∧ Below W.heap.size W w') := Lib.hid fun W C hl => by
  have h := sApply_any s C [[38, 2, x, y, z, t]] 1 1 rfl (by decide) W hl
  rw [apply_one, set_colour s x y z t, ← hX] at h
  exact h
 have HN : Hid (in18 n) := Lib.hid ⟨n0, n1⟩
 have HC : Hid (∀ m ∈ ([38, 2, x, y, z, t] : List Int), in18 m) := Lib.hid fun m hm => by
  simp only [List.mem_cons, List.not_mem_nil, or_false] at hm
  rcases hm with rfl | rfl | rfl | rfl | rfl | rfl
  ·exact ⟨by decide, by decide⟩
  ·exact ⟨by decide, by decide⟩
  ·exact hx
  ·exact hy
  ·exact hz
  ·exact ht0
 have hrs : r = s := by rw [← hr]; exact set_none s (by omega)
 subst hrs
 clear hr
 have HX := Lib.hid hX
 clear hX
 have q1 : n ≤ 9 := by omega
 have q2 : (n != 6) = false := by simpa using hc
 have q3 : (n == 6) = true := by simpa using hc
 have q4 : ¬ 30 ≤ n := by omega
 have q5 : ¬ 90 ≤ n := by omega
 obtain ⟨s0, s1, s2, s3, s4, s5, s6, s7, s8, s9⟩ := r
 unfold syV at HA1 HA2 ⊢
 simp only at HA1 HA2 HX ⊢
 clear hs n0 n1 hx hy hz ht0 hc
 have k0 := (Blk.new w 23 #[.bool s0, .bool s1, .bool s2, .bool s3, .bool s4, .bool s5, .bool s6, .int .i64 s7, .int .i64 s8, .int .i64 s9]).alloc (.cells #[.int .i64 x, .int .i64 y, .int .i64 z, .int .i64 t] 39)
 have z0 := Blk.new (w.alloc (.cells #[.bool s0, .bool s1, .bool s2, .bool s3, .bool s4, .bool s5, .bool s6, .int .i64 s7, .int .i64 s8, .int .i64 s9] 23)) 39 #[.int .i64 x, .int .i64 y, .int .i64 z, .int .i64 t]
 have hB0 : Below w.heap.size w ((w.alloc (.cells #[.bool s0, .bool s1, .bool s2, .bool s3, .bool s4, .bool s5, .bool s6, .int .i64 s7, .int .i64 s8, .int .i64 s9] 23)).alloc (.cells #[.int .i64 x, .int .i64 y, .int .i64 z, .int .i64 t] 39)) := ((Below.refl _ w).alloc (Nat.le_refl _) _).alloc (by simp) _
 simp only [World.size_alloc] at z0
 go_enter Tryd.func8, Tryd.ntmps8
 go_wp2_with fail
 refine (styAwake _ (ht.below hB0)).mono ?_
 rintro e w1 ⟨rfl, hb1⟩
 have hB1 := hB0.trans (hb1.mono hB0.size)
 have kS := k0.below hb1 k0.lt
 have kZ := z0.below hb1 z0.lt
 clear hb1 hB0 k0 z0
 go_upto_region 3 with (fail)
 clear q1 q2 q3 q4 q5
 obtain ⟨a0, a1, a2, a3, a4, a5, a6, a7, a8, a9⟩ := Blk.cells10y (s := ⟨s0, s1, s2, s3, s4, s5, s6, s7, s8, s9⟩) kS
 have ls3 := ls_lit w1 [n] 1 rfl (fun m hm => by rw [List.mem_singleton.1 hm]; exact HN.out)
 have hB3 := (hB1.alloc hB1.size (.cells #[.int .i64 n] 3)).alloc (hB1.alloc hB1.size (.cells #[.int .i64 n] 3)).size (.cells #[.slice (some ⟨w1.heap.size, 0, none⟩) 1 1] 35)
 have kS3 := (kS.alloc (.cells #[.int .i64 n] 3)).alloc (.cells #[.slice (some ⟨w1.heap.size, 0, none⟩) 1 1] 35)
 have kZ3 := (kZ.alloc (.cells #[.int .i64 n] 3)).alloc (.cells #[.slice (some ⟨w1.heap.size, 0, none⟩) 1 1] 35)
 go_wp2_with fail
 refine (HA1.out _ _ ls3).mono ?_
 rintro e w4 ⟨rfl, hb4⟩
 have hB4 := (hB3.trans (hb4.mono hB3.size)).alloc (hB3.trans (hb4.mono hB3.size)).size (.cells #[.bool s0, .bool s1, .bool s2, .bool s3, .bool s4, .bool s5, .bool s6, .int .i64 s7, .int .i64 s8, .int .i64 s9] 23)
 have kR := Blk.new w4 23 #[.bool s0, .bool s1, .bool s2, .bool s3, .bool s4, .bool s5, .bool s6, .int .i64 s7, .int .i64 s8, .int .i64 s9]
 have kS4 := (kS3.below hb4 kS3.lt).alloc (.cells #[.bool s0, .bool s1, .bool s2, .bool s3, .bool s4, .bool s5, .bool s6, .int .i64 s7, .int .i64 s8, .int .i64 s9] 23)
 have kZ4 := (kZ3.below hb4 kZ3.lt).alloc (.cells #[.bool s0, .bool s1, .bool s2, .bool s3, .bool s4, .bool s5, .bool s6, .int .i64 s7, .int .i64 s8, .int .i64 s9] 23)
 clear a0 a1 a2 a3 a4 a5 a6 a7 a8 a9 kS kS3 kZ kZ3 hb4 hB1 hB3 ls3
 go_upto_region 4 with (fail)
 obtain ⟨w5, hw5⟩ : ∃ w5, w4.alloc (.cells #[.bool s0, .bool s1, .bool s2, .bool s3, .bool s4, .bool s5, .bool s6, .int .i64 s7, .int .i64 s8, .int .i64 s9] 23) = w5 := ⟨_, rfl⟩
 rw [hw5] at kR kS4 kZ4 hB4 ⊢
 clear hw5
 obtain ⟨a0, a1, a2, a3, a4, a5, a6, a7, a8, a9⟩ := Blk.cells10y (s := ⟨s0, s1, s2, s3, s4, s5, s6, s7, s8, s9⟩) kS4
 have d0 : w5.cell? ⟨w.heap.size + 1, 0, none⟩ = some (.int .i64 x) := kZ4.cell 0
 have d1 : w5.cell? ⟨w.heap.size + 1, 1, none⟩ = some (.int .i64 y) := kZ4.cell 1
 have d2 : w5.cell? ⟨w.heap.size + 1, 2, none⟩ = some (.int .i64 z) := kZ4.cell 2
 have d3 : w5.cell? ⟨w.heap.size + 1, 3, none⟩ = some (.int .i64 t) := kZ4.cell 3
 have ls5 := ls_lit w5 [38, 2, x, y, z, t] 6 rfl HC.out
 have hB5 := (hB4.alloc hB4.size (.cells #[.int .i64 38, .int .i64 2, .int .i64 x, .int .i64 y, .int .i64 z, .int .i64 t] 3)).alloc (hB4.alloc hB4.size (.cells #[.int .i64 38, .int .i64 2, .int .i64 x, .int .i64 y, .int .i64 z, .int .i64 t] 3)).size (.cells #[.slice (some ⟨w5.heap.size, 0, none⟩) 6 6] 35)
 have kS5 := (kS4.alloc (.cells #[.int .i64 38, .int .i64 2, .int .i64 x, .int .i64 y, .int .i64 z, .int .i64 t] 3)).alloc (.cells #[.slice (some ⟨w5.heap.size, 0, none⟩) 6 6] 35)
 have kZ5 := (kZ4.alloc (.cells #[.int .i64 38, .int .i64 2, .int .i64 x, .int .i64 y, .int .i64 z, .int .i64 t] 3)).alloc (.cells #[.slice (some ⟨w5.heap.size, 0, none⟩) 6 6] 35)
 have kR5 := (kR.alloc (.cells #[.int .i64 38, .int .i64 2, .int .i64 x, .int .i64 y, .int .i64 z, .int .i64 t] 3)).alloc (.cells #[.slice (some ⟨w5.heap.size, 0, none⟩) 6 6] 35)
 go_wp2_with fail
 refine (HA2.out _ _ ls5).mono ?_
 rintro e w6 ⟨rfl, hb6⟩
 have hB6 := (hB5.trans (hb6.mono hB5.size)).alloc (hB5.trans (hb6.mono hB5.size)).size (.cells #[.bool s0, .bool s1, .bool s2, .bool s3, .bool s4, .bool s5, .bool s6, .int .i64 s7, .int .i64 X, .int .i64 s9] 23)
 have kB := Blk.new w6 23 #[.bool s0, .bool s1, .bool s2, .bool s3, .bool s4, .bool s5, .bool s6, .int .i64 s7, .int .i64 X, .int .i64 s9]
 have kS6 := (kS5.below hb6 kS5.lt).alloc (.cells #[.bool s0, .bool s1, .bool s2, .bool s3, .bool s4, .bool s5, .bool s6, .int .i64 s7, .int .i64 X, .int .i64 s9] 23)
 have kZ6 := (kZ5.below hb6 kZ5.lt).alloc (.cells #[.bool s0, .bool s1, .bool s2, .bool s3, .bool s4, .bool s5, .bool s6, .int .i64 s7, .int .i64 X, .int .i64 s9] 23)
 have kR6 := (kR5.below hb6 kR5.lt).alloc (.cells #[.bool s0, .bool s1, .bool s2, .bool s3, .bool s4, .bool s5, .bool s6, .int .i64 s7, .int .i64 X, .int .i64 s9] 23)
 clear a0 a1 a2 a3 a4 a5 a6 a7 a8 a9 d0 d1 d2 d3 kS4 kS5 kZ4 kZ5 kR kR5 hb6 hB4 hB5 ls5 HA1 HA2
 go_upto_region 5 with (fail)
 obtain ⟨w7, hw7⟩ : ∃ w7, w6.alloc (.cells #[.bool s0, .bool s1, .bool s2, .bool s3, .bool s4, .bool s5, .bool s6, .int .i64 s7, .int .i64 X, .int .i64 s9] 23) = w7 := ⟨_, rfl⟩
 rw [hw7] at kB kR6 kS6 kZ6 hB6 ⊢
 clear hw7
 obtain ⟨a0, a1, a2, a3, a4, a5, a6, a7, a8, a9⟩ := Blk.cells10y (s := ⟨s0, s1, s2, s3, s4, s5, s6, s7, X, s9⟩) kB
 have c8 : (w7.alloc (.cells #[.bool s0, .bool s1, .bool s2, .bool s3, .bool s4, .bool s5, .bool s6, .int .i64 s7, .int .i64 X, .int .i64 s9] 23)).cell? ⟨w.heap.size, 8, none⟩ = some (.int .i64 s8) := (kS6.alloc (.cells #[.bool s0, .bool s1, .bool s2, .bool s3, .bool s4, .bool s5, .bool s6, .int .i64 s7, .int .i64 X, .int .i64 s9] 23)).cell 8
 have hB8 := hB6.alloc hB6.size (.cells #[.bool s0, .bool s1, .bool s2, .bool s3, .bool s4, .bool s5, .bool s6, .int .i64 s7, .int .i64 s8, .int .i64 s9] 23)
 have kC := Blk.new w7 23 #[.bool s0, .bool s1, .bool s2, .bool s3, .bool s4, .bool s5, .bool s6, .int .i64 s7, .int .i64 s8, .int .i64 s9]
 have kS8 := kS6.alloc (.cells #[.bool s0, .bool s1, .bool s2, .bool s3, .bool s4, .bool s5, .bool s6, .int .i64 s7, .int .i64 s8, .int .i64 s9] 23)
 have kZ8 := kZ6.alloc (.cells #[.bool s0, .bool s1, .bool s2, .bool s3, .bool s4, .bool s5, .bool s6, .int .i64 s7, .int .i64 s8, .int .i64 s9] 23)
 have kR8 := kR6.alloc (.cells #[.bool s0, .bool s1, .bool s2, .bool s3, .bool s4, .bool s5, .bool s6, .int .i64 s7, .int .i64 s8, .int .i64 s9] 23)
 have kB8 := kB.alloc (.cells #[.bool s0, .bool s1, .bool s2, .bool s3, .bool s4, .bool s5, .bool s6, .int .i64 s7, .int .i64 s8, .int .i64 s9] 23)
 go_upto_region 7 with (fail)
 clear a0 a1 a2 a3 a4 a5 a6 a7 a8 a9 c8 kB kR6 kS6 kZ6 hB6
 obtain ⟨w8, hw8⟩ : ∃ w8, w7.alloc (.cells #[.bool s0, .bool s1, .bool s2, .bool s3, .bool s4, .bool s5, .bool s6, .int .i64 s7, .int .i64 s8, .int .i64 s9] 23) = w8 := ⟨_, rfl⟩
 rw [hw8] at kC kS8 kZ8 kR8 kB8 hB8 ⊢
 clear hw8
 have d1 : w8.cell? ⟨w.heap.size + 1, 1, none⟩ = some (.int .i64 y) := kZ8.cell 1
 have d2 : w8.cell? ⟨w.heap.size + 1, 2, none⟩ = some (.int .i64 z) := kZ8.cell 2
 have d3 : w8.cell? ⟨w.heap.size + 1, 3, none⟩ = some (.int .i64 t) := kZ8.cell 3
 go_wp2_with fail
 go_loopw [12, 13] (fun yv zv wr => ∃ (i : Nat) (b : Bool), 1 ≤ i ∧ i ≤ 4 ∧ zv = .int .i64 i ∧ yv = .bool b ∧ Hid (rgtY y z t i = b) ∧ wr = w8) (fun _ zv _ => 4 - (intOf zv).toNat)
 case atStart => exact ⟨1, true, by omega, by omega, rfl, rfl, Lib.hid rfl, rfl⟩
 case round =>
  obtain ⟨i, b, h1, h4, rfl, rfl, hb, rfl⟩ := hrel
  by_cases hlt : i < 4
  ·have hcs : i = 1 ∨ i = 2 ∨ i = 3 := by omega
   clear hlt h1 h4
   rcases hcs with rfl | rfl | rfl
   ·have hst := show rgtY y z t 2 = (rgtY y z t 1 && byteY y) from by show byteY y = (true && byteY y); rw [Bool.true_and]
    cases b with
    | false =>
      have HR := Lib.hid (show rgtY y z t 2 = false by rw [hst, hb.out]; rfl)
      clear hst hb
      go_wp2_with fail
      go_roundw
      case rel => exact ⟨2, false, by omega, by omega, by go_num, rfl, HR, by trivial⟩
      case measure => simp [intOf]
    | true =>
      by_cases g0 : 0 ≤ y
      ·by_cases g1 : y ≤ 255
       ·have HR := Lib.hid (show rgtY y z t 2 = true by rw [hst, hb.out, byte_yes ⟨g0, g1⟩]; rfl)
        clear hst hb
        go_wp2_with fail
        go_roundw
        case rel => exact ⟨2, true, by omega, by omega, by go_num, rfl, HR, by trivial⟩
        case measure => simp [intOf]
       ·have HR := Lib.hid (show rgtY y z t 2 = false by rw [hst, hb.out, byte_no (fun h => g1 h.2)]; rfl)
        clear hst hb
        go_wp2_with fail
        go_roundw
        case rel => exact ⟨2, false, by omega, by omega, by go_num, rfl, HR, by trivial⟩
        case measure => simp [intOf]
      ·have HR := Lib.hid (show rgtY y z t 2 = false by rw [hst, hb.out, byte_no (fun h => g0 h.1)]; rfl)
       clear hst hb
       go_wp2_with fail
       go_roundw
       case rel => exact ⟨2, false, by omega, by omega, by go_num, rfl, HR, by trivial⟩
       case measure => simp [intOf]
   ·have hst := show rgtY y z t 3 = (rgtY y z t 2 && byteY z) from by rfl
    cases b with
    | false =>
      have HR := Lib.hid (show rgtY y z t 3 = false by rw [hst, hb.out]; rfl)
      clear hst hb
      go_wp2_with fail
      go_roundw
      case rel => exact ⟨3, false, by omega, by omega, by go_num, rfl, HR, by trivial⟩
      case measure => simp [intOf]
    | true =>
      by_cases g0 : 0 ≤ z
      ·by_cases g1 : z ≤ 255
       ·have HR := Lib.hid (show rgtY y z t 3 = true by rw [hst, hb.out, byte_yes ⟨g0, g1⟩]; rfl)
        clear hst hb
        go_wp2_with fail
        go_roundw
        case rel => exact ⟨3, true, by omega, by omega, by go_num, rfl, HR, by trivial⟩
        case measure => simp [intOf]
       ·have HR := Lib.hid (show rgtY y z t 3 = false by rw [hst, hb.out, byte_no (fun h => g1 h.2)]; rfl)
        clear hst hb
        go_wp2_with fail
        go_roundw
        case rel => exact ⟨3, false, by omega, by omega, by go_num, rfl, HR, by trivial⟩
        case measure => simp [intOf]
      ·have HR := Lib.hid (show rgtY y z t 3 = false by rw [hst, hb.out, byte_no (fun h => g0 h.1)]; rfl)
       clear hst hb
       go_wp2_with fail
       go_roundw
       case rel => exact ⟨3, false, by omega, by omega, by go_num, rfl, HR, by trivial⟩
       case measure => simp [intOf]
   ·have hst := show rgtY y z t 4 = (rgtY y z t 3 && byteY t) from by rfl
    cases b with
    | false =>
      have HR := Lib.hid (show rgtY y z t 4 = false by rw [hst, hb.out]; rfl)
      clear hst hb
      go_wp2_with fail
      go_roundw
      case rel => exact ⟨4, false, by omega, by omega, by go_num, rfl, HR, by trivial⟩
      case measure => simp [intOf]
    | true =>
      by_cases g0 : 0 ≤ t
      ·by_cases g1 : t ≤ 255
       ·have HR := Lib.hid (show rgtY y z t 4 = true by rw [hst, hb.out, byte_yes ⟨g0, g1⟩]; rfl)
        clear hst hb
        go_wp2_with fail
        go_roundw
        case rel => exact ⟨4, true, by omega, by omega, by go_num, rfl, HR, by trivial⟩
        case measure => simp [intOf]
       ·have HR := Lib.hid (show rgtY y z t 4 = false by rw [hst, hb.out, byte_no (fun h => g1 h.2)]; rfl)
        clear hst hb
        go_wp2_with fail
        go_roundw
        case rel => exact ⟨4, false, by omega, by omega, by go_num, rfl, HR, by trivial⟩
        case measure => simp [intOf]
      ·have HR := Lib.hid (show rgtY y z t 4 = false by rw [hst, hb.out, byte_no (fun h => g0 h.1)]; rfl)
       clear hst hb
       go_wp2_with fail
       go_roundw
       case rel => exact ⟨4, false, by omega, by omega, by go_num, rfl, HR, by trivial⟩
       case measure => simp [intOf]
  ·have t1 : ¬ ((i : Int) < 4) := by omega
   obtain rfl : i = 4 := by omega
   clear hlt h1 h4
   have hrg := rgt_4 hb.out
   obtain ⟨a0, a1, a2, a3, a4, a5, a6, a7, a8, a9⟩ := Blk.cells10y (s := ⟨s0, s1, s2, s3, s4, s5, s6, s7, s8, s9⟩) kS8
   obtain ⟨e0, e1, e2, e3, e4, e5, e6, e7, e8, e9⟩ := Blk.cells10y (s := ⟨s0, s1, s2, s3, s4, s5, s6, s7, s8, s9⟩) kC
   obtain ⟨f0, f1, f2, f3, f4, f5, f6, f7, f8, f9⟩ := Blk.cells10y (s := ⟨s0, s1, s2, s3, s4, s5, s6, s7, s8, s9⟩) kR8
   have c8 := kB8.cell 8
   have c8 : wr.cell? ⟨w6.heap.size, 8, none⟩ = some (.int .i64 X) := kB8.cell 8
   cases b with
   | false =>
     have hX := HX.out.trans (if_neg (fun h => by have := hrg.1 h; cases this))
     clear hrg hb
     subst hX
     go_wp2_with fail
     all_goals go_ret
     all_goals exact ⟨rfl, hB8⟩
   | true =>
     have hbb := hrg.2 rfl
     have hX := HX.out.trans (if_pos hbb)
     have bd : ∀ n : Int, byteY n = true → 0 ≤ n ∧ n ≤ 255 := fun n h => by unfold byteY at h; simpa using h
     obtain ⟨y0, y1⟩ := bd y hbb.1
     obtain ⟨z0, z1⟩ := bd z hbb.2.1
     obtain ⟨t0, t1'⟩ := bd t hbb.2.2
     have e1' : IntKind.i64.wrap (65536 * y) = 65536 * y := by rw [IntKind.wrap_i64]; omega
     have e2' : IntKind.i64.wrap (256 + 65536 * y) = 256 + 65536 * y := by rw [IntKind.wrap_i64]; omega
     have e3' : IntKind.i64.wrap (256 * z) = 256 * z := by rw [IntKind.wrap_i64]; omega
     have e4' : IntKind.i64.wrap (256 + 65536 * y + 256 * z) = 256 + 65536 * y + 256 * z := by rw [IntKind.wrap_i64]; omega
     have e5' : IntKind.i64.wrap (256 + 65536 * y + 256 * z + t) = 256 + 65536 * y + 256 * z + t := by rw [IntKind.wrap_i64]; omega
     clear hrg hb hbb bd y0 y1 z0 z1 t0 t1'
     subst hX
     go_wp2_with fail
     all_goals go_ret
     all_goals exact ⟨rfl, hB8⟩
end Go.Proofs.YthcafgningpdnaaDoor
