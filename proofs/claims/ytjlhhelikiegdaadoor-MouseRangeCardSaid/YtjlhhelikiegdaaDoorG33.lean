/-
  Stage 16, the landed mouse, walked: the marks, the modifiers that a number tells.
-/
import Derived.Test.YtjlhhelikiegdaaDoorG24
import Derived.Test.YtjlhhelikiegdaaDoorG32
namespace Go.Proofs.YtjlhhelikiegdaaDoor
open Go.RowKit
theorem rd_is (w : World) (l : List Int) (L : Array Value) (t : TypeId) (z : Nat × Nat) (h : is_ l = L.toList) : Rd (w.alloc (.cells L t z)) (some ⟨w.heap.size, 0, none⟩) (is_ l) := by
 rw [h]
 exact Rd.block (heap_alloc_new w _) (List.take_of_length_le (Nat.le_refl _))
set_option maxRecDepth 100000 in
set_option maxHeartbeats 4000000 in
theorem mmarks_any (mode btn typ x y mods q : Int) (hq : mkW mode typ mods = q) (w : World) : Calls Tryd.prog 22 #[.int .i64 mode, .agg #[.int .i64 btn, .int .i64 typ, .int .i64 x, .int .i64 y, .int .i64 mods]] w (NumE q w) := by
 obtain ⟨b0, h0⟩ : ∃ b, (typ == 4) = b := ⟨_, rfl⟩
 obtain ⟨b1, h1⟩ : ∃ b, hasW mode mods 1 = b := ⟨_, rfl⟩
 obtain ⟨b2, h2⟩ : ∃ b, hasW mode mods 2 = b := ⟨_, rfl⟩
 obtain ⟨b4, h4⟩ : ∃ b, hasW mode mods 4 = b := ⟨_, rfl⟩
 obtain ⟨n0, e0⟩ : ∃ b, wh b0 32 = b := ⟨_, rfl⟩
 obtain ⟨n1, e1⟩ : ∃ b, wh b1 4 = b := ⟨_, rfl⟩
 obtain ⟨n2, e2⟩ : ∃ b, wh b2 8 = b := ⟨_, rfl⟩
 obtain ⟨n4, e4⟩ : ∃ b, wh b4 16 = b := ⟨_, rfl⟩
 have r0 := wh_rng b0 (n := 32) (by decide)
 have r1 := wh_rng b1 (n := 4) (by decide)
 have r2 := wh_rng b2 (n := 8) (by decide)
 have r4 := wh_rng b4 (n := 16) (by decide)
 rw [e0] at r0
 rw [e1] at r1
 rw [e2] at r2
 rw [e4] at r4
 have hsum : [n0, n1, n2, n4].sum = q := by
  rw [← hq]; unfold mkW; rw [h0, h1, h2, h4, e0, e1, e2, e4]; simp; omega
 have HW0 : Hid (∀ W, Calls Tryd.prog 20 #[.bool b0, .int .i64 32] W (NumE n0 W)) := Lib.hid fun W => mwhen_any b0 32 n0 e0 W
 have HW1 : Hid (∀ W, Calls Tryd.prog 20 #[.bool b1, .int .i64 4] W (NumE n1 W)) := Lib.hid fun W => mwhen_any b1 4 n1 e1 W
 have HW2 : Hid (∀ W, Calls Tryd.prog 20 #[.bool b2, .int .i64 8] W (NumE n2 W)) := Lib.hid fun W => mwhen_any b2 8 n2 e2 W
 have HW4 : Hid (∀ W, Calls Tryd.prog 20 #[.bool b4, .int .i64 16] W (NumE n4 W)) := Lib.hid fun W => mwhen_any b4 16 n4 e4 W
 have HS : Hid (∀ A W, Rd W A (is_ [n0, n1, n2, n4]) → Calls Tryd.prog 39 #[.slice A 4 4] W (NumE q W)) := Lib.hid fun A W hr => msum_any [n0, n1, n2, n4] 4 q rfl (by decide) (by
  intro n hn
  simp only [List.mem_cons, List.not_mem_nil, or_false] at hn
  rcases hn with rfl | rfl | rfl | rfl <;> omega) hsum A 4 W hr
 have km := Blk.new w 3 #[.int .i64 mode]
 have ke := Blk.new (w.alloc (.cells #[.int .i64 mode] 3)) 23 #[.int .i64 btn, .int .i64 typ, .int .i64 x, .int .i64 y, .int .i64 mods]
 replace km := km.alloc (.cells #[.int .i64 btn, .int .i64 typ, .int .i64 x, .int .i64 y, .int .i64 mods] 23)
 rw [World.size_alloc] at ke
 have hB : Below w.heap.size w ((w.alloc (.cells #[.int .i64 mode] 3)).alloc (.cells #[.int .i64 btn, .int .i64 typ, .int .i64 x, .int .i64 y, .int .i64 mods] 23)) := ((Below.refl _ w).alloc (Nat.le_refl _) _).alloc (by simp) _
 have HH1 : Hid (∀ W, Blk W w.heap.size 3 #[.int .i64 mode] → Blk W (w.heap.size + 1) 23 #[.int .i64 btn, .int .i64 typ, .int .i64 x, .int .i64 y, .int .i64 mods] → Calls Tryd.prog 40 #[.int .i64 1, .pointer (some ⟨w.heap.size, 0, none⟩), .pointer (some ⟨w.heap.size + 1, 0, none⟩)] W fun e w' => e = .returned (.bool b1) ∧ Below W.heap.size W w') := Lib.hid fun W a b => mhas_any mode mods 1 b1 h1 W a b
 have HH2 : Hid (∀ W, Blk W w.heap.size 3 #[.int .i64 mode] → Blk W (w.heap.size + 1) 23 #[.int .i64 btn, .int .i64 typ, .int .i64 x, .int .i64 y, .int .i64 mods] → Calls Tryd.prog 40 #[.int .i64 2, .pointer (some ⟨w.heap.size, 0, none⟩), .pointer (some ⟨w.heap.size + 1, 0, none⟩)] W fun e w' => e = .returned (.bool b2) ∧ Below W.heap.size W w') := Lib.hid fun W a b => mhas_any mode mods 2 b2 h2 W a b
 have HH4 : Hid (∀ W, Blk W w.heap.size 3 #[.int .i64 mode] → Blk W (w.heap.size + 1) 23 #[.int .i64 btn, .int .i64 typ, .int .i64 x, .int .i64 y, .int .i64 mods] → Calls Tryd.prog 40 #[.int .i64 4, .pointer (some ⟨w.heap.size, 0, none⟩), .pointer (some ⟨w.heap.size + 1, 0, none⟩)] W fun e w' => e = .returned (.bool b4) ∧ Below W.heap.size W w') := Lib.hid fun W a b => mhas_any mode mods 4 b4 h4 W a b
 clear h1 h2 h4 e0 e1 e2 e4 r0 r1 r2 r4 hsum hq
 obtain ⟨a0, a1, a2, a3, a4⟩ := Blk.cells5 ke
 have KM := Lib.hid km
 have KE := Lib.hid ke
 clear km ke
 go_enter Tryd.func22, Tryd.ntmps22
 go_wp2_with fail
 refine (HW0.out _).mono ?_
 rintro e w1 ⟨rfl, hb⟩
 have hB1 := hB.trans (hb.mono hB.size)
 have km1 := KM.out.below hb KM.out.lt
 have ke1 := KE.out.below hb KE.out.lt
 clear a0 a1 a2 a3 a4 hB hb KM KE
 go_wp2_with fail
 refine (HH1.out _ km1 ke1).mono ?_
 rintro e w2 ⟨rfl, hb⟩
 have hB2 := hB1.trans (hb.mono hB1.size)
 have km2 := km1.below hb km1.lt
 have ke2 := ke1.below hb ke1.lt
 clear hB1 hb km1 ke1
 go_wp2_with fail
 refine (HW1.out _).mono ?_
 rintro e w3 ⟨rfl, hb⟩
 have hB3 := hB2.trans (hb.mono hB2.size)
 have km3 := km2.below hb km2.lt
 have ke3 := ke2.below hb ke2.lt
 clear hB2 hb km2 ke2
 go_wp2_with fail
 refine (HH2.out _ km3 ke3).mono ?_
 rintro e w4 ⟨rfl, hb⟩
 have hB4 := hB3.trans (hb.mono hB3.size)
 have km4 := km3.below hb km3.lt
 have ke4 := ke3.below hb ke3.lt
 clear hB3 hb km3 ke3
 go_wp2_with fail
 refine (HW2.out _).mono ?_
 rintro e w5 ⟨rfl, hb⟩
 have hB5 := hB4.trans (hb.mono hB4.size)
 have km5 := km4.below hb km4.lt
 have ke5 := ke4.below hb ke4.lt
 clear hB4 hb km4 ke4
 go_wp2_with fail
 refine (HH4.out _ km5 ke5).mono ?_
 rintro e w6 ⟨rfl, hb⟩
 have hB6 := hB5.trans (hb.mono hB5.size)
 clear hB5 hb km5 ke5
 go_wp2_with fail
 refine (HW4.out _).mono ?_
 rintro e w7 ⟨rfl, hb⟩
 have hB7 := hB6.trans (hb.mono hB6.size)
 clear hB6 hb
 go_wp2_with fail
 refine (HS.out _ _ (rd_is w7 [n0, n1, n2, n4] _ _ _ rfl)).mono ?_
 rintro e w8 ⟨rfl, hb⟩
 have hB8 := hB7.alloc hB7.size (.cells #[.int .i64 n0, .int .i64 n1, .int .i64 n2, .int .i64 n4] 3)
 go_wp2_with fail
 go_ret
 exact ⟨rfl, hB8.trans (hb.mono hB8.size)⟩
set_option maxRecDepth 100000 in
set_option maxHeartbeats 4000000 in
theorem mmods_any (n q : Int) (hq : modP n = q) (w : World) : Calls Tryd.prog 18 #[.int .i64 n] w (NumE q w) := by
 obtain ⟨b1, h1⟩ : ∃ b, bT n 4 = b := ⟨_, rfl⟩
 obtain ⟨b2, h2⟩ : ∃ b, bT n 8 = b := ⟨_, rfl⟩
 obtain ⟨b4, h4⟩ : ∃ b, bT n 16 = b := ⟨_, rfl⟩
 obtain ⟨n1, e1⟩ : ∃ b, wh b1 1 = b := ⟨_, rfl⟩
 obtain ⟨n2, e2⟩ : ∃ b, wh b2 2 = b := ⟨_, rfl⟩
 obtain ⟨n4, e4⟩ : ∃ b, wh b4 4 = b := ⟨_, rfl⟩
 have r1 := wh_rng b1 (n := 1) (by decide)
 have r2 := wh_rng b2 (n := 2) (by decide)
 have r4 := wh_rng b4 (n := 4) (by decide)
 rw [e1] at r1
 rw [e2] at r2
 rw [e4] at r4
 have hsum : [n1, n2, n4].sum = q := by
  rw [← hq]; unfold modP; rw [h1, h2, h4, e1, e2, e4]; simp; omega
 have HW1 : Hid (∀ W, Calls Tryd.prog 20 #[.bool b1, .int .i64 1] W (NumE n1 W)) := Lib.hid fun W => mwhen_any b1 1 n1 e1 W
 have HW2 : Hid (∀ W, Calls Tryd.prog 20 #[.bool b2, .int .i64 2] W (NumE n2 W)) := Lib.hid fun W => mwhen_any b2 2 n2 e2 W
 have HW4 : Hid (∀ W, Calls Tryd.prog 20 #[.bool b4, .int .i64 4] W (NumE n4 W)) := Lib.hid fun W => mwhen_any b4 4 n4 e4 W
 have HS : Hid (∀ A W, Rd W A (is_ [n1, n2, n4]) → Calls Tryd.prog 39 #[.slice A 3 3] W (NumE q W)) := Lib.hid fun A W hr => msum_any [n1, n2, n4] 3 q rfl (by decide) (by
  intro n hn
  simp only [List.mem_cons, List.not_mem_nil, or_false] at hn
  rcases hn with rfl | rfl | rfl <;> omega) hsum A 3 W hr
 have km := Blk.new w 3 #[.int .i64 n]
 have hB : Below w.heap.size w (w.alloc (.cells #[.int .i64 n] 3)) := (Below.refl _ w).alloc (Nat.le_refl _) _
 have HH1 : Hid (∀ W, Blk W w.heap.size 3 #[.int .i64 n] → Calls Tryd.prog 38 #[.int .i64 4, .pointer (some ⟨w.heap.size, 0, none⟩)] W fun e w' => e = .returned (.bool b1) ∧ Below W.heap.size W w') := Lib.hid fun W a => mmodhas_any n 4 b1 h1 W a
 have HH2 : Hid (∀ W, Blk W w.heap.size 3 #[.int .i64 n] → Calls Tryd.prog 38 #[.int .i64 8, .pointer (some ⟨w.heap.size, 0, none⟩)] W fun e w' => e = .returned (.bool b2) ∧ Below W.heap.size W w') := Lib.hid fun W a => mmodhas_any n 8 b2 h2 W a
 have HH4 : Hid (∀ W, Blk W w.heap.size 3 #[.int .i64 n] → Calls Tryd.prog 38 #[.int .i64 16, .pointer (some ⟨w.heap.size, 0, none⟩)] W fun e w' => e = .returned (.bool b4) ∧ Below W.heap.size W w') := Lib.hid fun W a => mmodhas_any n 16 b4 h4 W a
 clear h1 h2 h4 e1 e2 e4 r1 r2 r4 hsum hq
 go_enter Tryd.func18, Tryd.ntmps18
 go_wp2_with fail
 refine (HH1.out _ km).mono ?_
 rintro e w2 ⟨rfl, hb⟩
 have hB2 := hB.trans (hb.mono hB.size)
 have km2 := km.below hb km.lt
 clear hB hb km
 go_wp2_with fail
 refine (HW1.out _).mono ?_
 rintro e w3 ⟨rfl, hb⟩
 have hB3 := hB2.trans (hb.mono hB2.size)
 have km3 := km2.below hb km2.lt
 clear hB2 hb km2
 go_wp2_with fail
 refine (HH2.out _ km3).mono ?_
 rintro e w4 ⟨rfl, hb⟩
 have hB4 := hB3.trans (hb.mono hB3.size)
 have km4 := km3.below hb km3.lt
 clear hB3 hb km3
 go_wp2_with fail
 refine (HW2.out _).mono ?_
 rintro e w5 ⟨rfl, hb⟩
 have hB5 := hB4.trans (hb.mono hB4.size)
 have km5 := km4.below hb km4.lt
 clear hB4 hb km4
 go_wp2_with fail
 refine (HH4.out _ km5).mono ?_
 rintro e w6 ⟨rfl, hb⟩
 have hB6 := hB5.trans (hb.mono hB5.size)
 clear hB5 hb km5
 go_wp2_with fail
 refine (HW4.out _).mono ?_
 rintro e w7 ⟨rfl, hb⟩
 have hB7 := hB6.trans (hb.mono hB6.size)
 clear hB6 hb
 go_wp2_with fail
 refine (HS.out _ _ (rd_is w7 [n1, n2, n4] _ _ _ rfl)).mono ?_
 rintro e w8 ⟨rfl, hb⟩
 have hB8 := hB7.alloc hB7.size (.cells #[.int .i64 n1, .int .i64 n2, .int .i64 n4] 3)
 go_wp2_with fail
 go_ret
 exact ⟨rfl, hB8.trans (hb.mono hB8.size)⟩
end Go.Proofs.YtjlhhelikiegdaaDoor
