/-
  Layer 11, walked: the document's Key, of the pad's keys that move.
-/
import Derived.Test.YtceipblcdcgljaaGreatDoorG32
import Derived.Test.YtceipblcdcgljaaGreatDoorG37
namespace Go.Proofs.YtceipblcdcgljaaGreatDoor
open Go.RowKit
set_option maxRecDepth 100000 in
set_option maxHeartbeats 16000000 in
theorem rkey11_p_func (m : Mo) (k : Ky) (hk : okK k) (hs : k.text.size ≤ 4294967296) (hm : mayK k = true) (h3 : k.typ ≠ 3) (h5 : (lookE k.code).kind = 5) (hkp : ¬ (m.keypad = true ∧ oldN k.mods = 0)) (hK : (lookE (lookE k.code).char).kind = 3 ∨ (lookE (lookE k.code).char).kind = 4) (w : World) :
 Calls Tryz.prog 21 #[moV m, kyV k] w (Out (legL m k) w) := by
 obtain ⟨R, hR⟩ : ∃ R, legL m k = R := ⟨_, rfl⟩
 have HM : Hid (∀ W, Calls Tryz.prog 14 #[kyV k] W fun e w' => e = .returned (.bool true) ∧ Below W.heap.size W w') := Lib.hid fun W => by rw [← hm]; exact rmay10_any k hs W
 have HO : Hid (∀ W, Calls Tryz.prog 44 #[.int .i64 k.mods] W fun e w' => e = .returned (.int .i64 (oldN k.mods)) ∧ Below W.heap.size W w') := Lib.hid fun W => rold_any k.mods W
 have HL : Hid (∀ W, Calls Tryz.prog 22 #[.int .i64 k.code] W fun e w' => e = .returned (enV (lookE k.code)) ∧ Below W.heap.size W w') := Lib.hid fun W => rlook_any k.code W
 have t3 : (k.typ == 3) = false := beq_false_of_ne h3
 have ho : 0 ≤ oldN k.mods ∧ oldN k.mods < 8 := by unfold oldN; omega
 rw [leg_yes hm h3] at hR
 unfold legG at hR
 obtain ⟨hch, hfn⟩ := char_e k.code
 rw [if_pos h5, if_neg hkp] at hR
 unfold legE at hR
 rw [if_neg (by omega), if_neg (by omega), if_pos hK] at hR
 have E := Lib.hid hR.symm
 have hR0 : legL m k = R := by rw [leg_yes hm h3]; unfold legG; rw [if_pos h5, if_neg hkp]; unfold legE; rw [if_neg (by omega), if_neg (by omega), if_pos hK]; exact hR
 rw [hR0]
 clear hR hR0 hm h3
 have HT : Hid (∀ W, Calls Tryz.prog 51 #[moV m, enV (lookE (lookE k.code).char), .int .i64 (oldN k.mods)] W (Out (funcG m (lookE (lookE k.code).char) (oldN k.mods)) W)) := Lib.hid fun W => rfunc_any m _ _ (char_e _).2.1 (by have := (char_e (lookE k.code).char).2.2; omega) ho.1 ho.2 W
 have HL2 : Hid (∀ W, Calls Tryz.prog 22 #[.int .i64 (lookE k.code).char] W fun e w' => e = .returned (enV (lookE (lookE k.code).char)) ∧ Below W.heap.size W w') := Lib.hid fun W => rlook_any _ W
 obtain ⟨⟨K, F, N, C, B⟩, hE⟩ : ∃ E, lookE k.code = E := ⟨_, rfl⟩
 simp only [hE] at HL HL2 h5 hK E HT
 obtain ⟨⟨K2, F2, N2, C2, B2⟩, hE2⟩ : ∃ E, lookE C = E := ⟨_, rfl⟩
 simp only [hE2] at HL2 hK E HT
 clear hE2
 clear hE hch hfn
 obtain ⟨ov, hov⟩ : ∃ v, oldN k.mods = v := ⟨_, rfl⟩
 simp only [hov] at ho HO hkp E HT
 clear hov
 subst h5
 obtain ⟨code, mods, typ, shift, base, text⟩ := k
 obtain ⟨m0, m1, m2, m3, m4, m5, m6, m7, m8, m9⟩ := m
 simp only [enV, kyV, moV] at HM HO HL t3 HL2 hkp HT E
 have hkp2 : m1 = false ∨ (ov == 0) = false := by
  cases m1 with
  | false => exact .inl rfl
  | true => exact .inr (beq_false_of_ne fun h => hkp ⟨rfl, h⟩)
 clear hkp
 rcases hK with hK | hK
 ·subst hK
  rcases hkp2 with rfl | t0
  ·skip
   rw [kyV, moV]
   have k2 := (Blk.new w 23 #[.bool m0, .bool false, .bool m2, .bool m3, .bool m4, .bool m5, .bool m6, .int .i64 m7, .int .i64 m8, .int .i64 m9]).alloc (.cells #[.int .i64 code, .int .i64 mods, .int .i64 typ, .int .i64 shift, .int .i64 base, .string text] 25)
   have k3 := Blk.new (w.alloc (.cells #[.bool m0, .bool false, .bool m2, .bool m3, .bool m4, .bool m5, .bool m6, .int .i64 m7, .int .i64 m8, .int .i64 m9] 23)) 25 #[.int .i64 code, .int .i64 mods, .int .i64 typ, .int .i64 shift, .int .i64 base, .string text]
   rw [World.size_alloc] at k3
   have hB0 : Below w.heap.size w ((w.alloc (.cells #[.bool m0, .bool false, .bool m2, .bool m3, .bool m4, .bool m5, .bool m6, .int .i64 m7, .int .i64 m8, .int .i64 m9] 23)).alloc (.cells #[.int .i64 code, .int .i64 mods, .int .i64 typ, .int .i64 shift, .int .i64 base, .string text] 25)) := ((Below.refl _ w).alloc (Nat.le_refl _) _).alloc (by simp) _
   obtain ⟨a0, a1, a2, a3, a4, a5⟩ := Blk.cells6 k3
   go_enter Tryz.func21, Tryz.ntmps21
   go_wp2_with fail
   refine (HM.out _).mono ?_
   rintro e w1 ⟨rfl, hb1⟩
   have m1_ := k2.below hb1 k2.lt
   have k1_ := k3.below hb1 k3.lt
   have hB1 := hB0.trans (hb1.mono hB0.size)
   clear k2 k3 hB0 hb1 a0 a1 a2 a3 a4 a5
   obtain ⟨a0, a1, a2, a3, a4, a5⟩ := Blk.cells6 k1_
   go_wp2_with fail
   refine (HL.out _).mono ?_
   rintro e w2 ⟨rfl, hb2⟩
   have m2_ := m1_.below hb2 m1_.lt
   have k2_ := k1_.below hb2 k1_.lt
   have hB2 := hB1.trans (hb2.mono hB1.size)
   clear m1_ k1_ hB1 hb2 a0 a1 a2 a3 a4 a5
   have m2a := m2_.alloc (.cells #[.int .i64 5, .int .u8 F, .int .i64 N, .int .i64 C, .bool B] 53)
   have k2a := k2_.alloc (.cells #[.int .i64 5, .int .u8 F, .int .i64 N, .int .i64 C, .bool B] 53)
   have e2a := Blk.new w2 53 #[.int .i64 5, .int .u8 F, .int .i64 N, .int .i64 C, .bool B]
   have hB2a := hB2.alloc hB2.size (.cells #[.int .i64 5, .int .u8 F, .int .i64 N, .int .i64 C, .bool B] 53)
   have hlk := k2_.lt
   obtain ⟨a0, a1, a2, a3, a4, a5⟩ := Blk.cells6 k2a
   go_wp2_with fail
   refine (HO.out _).mono ?_
   rintro e w3 ⟨rfl, hb3⟩
   have mB := m2a.below hb3 m2a.lt
   have kB := k2a.below hb3 k2a.lt
   have eB := e2a.below hb3 e2a.lt
   have hB3 := hB2a.trans (hb3.mono hB2a.size)
   clear m2_ k2_ m2a k2a e2a hB2a hb3 a0 a1 a2 a3 a4 a5
   have hlw := hB2.size
   obtain ⟨a0, a1, a2, a3, a4, a5⟩ := Blk.cells6 kB
   obtain ⟨e0, e1, e2, e3, e4⟩ := Blk.cells5 eB
   obtain ⟨c0, c1, c2, c3, c4, c5, c6, c7, c8, c9⟩ := Blk.cells10 mB
   have z0 := kB.frozen 0
   have z3 := kB.frozen 3
   have hne : w2.heap.size ≠ w.heap.size + 1 := by omega
   have k5 : Blk ((w3.setCell ⟨w.heap.size + 1, 0, none⟩ (.int .i64 C)).setCell ⟨w.heap.size + 1, 3, none⟩ (.int .i64 0)) (w.heap.size + 1) 25 #[.int .i64 C, .int .i64 mods, .int .i64 typ, .int .i64 0, .int .i64 base, .string text] := by
    have h0 : Blk _ (w.heap.size + 1) 25 #[.int .i64 C, .int .i64 mods, .int .i64 typ, .int .i64 shift, .int .i64 base, .string text] := kB.set 0 (.int .i64 C)
    exact h0.set 3 (.int .i64 0)
   have e5 := (eB.far (a := ⟨w.heap.size + 1, 0, none⟩) hne (.int .i64 C)).far (a := ⟨w.heap.size + 1, 3, none⟩) hne (.int .i64 0)
   have m5_ := (mB.far (a := ⟨w.heap.size + 1, 0, none⟩) (by show w.heap.size ≠ w.heap.size + 1; omega) (.int .i64 C)).far (a := ⟨w.heap.size + 1, 3, none⟩) (by show w.heap.size ≠ w.heap.size + 1; omega) (.int .i64 0)
   have hB5 := (hB3.setCell (p := ⟨w.heap.size + 1, 0, none⟩) (Nat.le_succ _) (.int .i64 C)).setCell (p := ⟨w.heap.size + 1, 3, none⟩) (Nat.le_succ _) (.int .i64 0)
   obtain ⟨x0, x1, x2, x3, x4⟩ := Blk.cells5 e5
   have l0 : (w3.setCell ⟨w.heap.size + 1, 0, none⟩ (.int .i64 C)).cell? ⟨w.heap.size + 1, 3, none⟩ = some (.int .i64 shift) := (kB.set 0 (.int .i64 C)).cell 3
   have l1 : (w3.setCell ⟨w.heap.size + 1, 0, none⟩ (.int .i64 C)).frozen? ⟨w.heap.size + 1, 3, none⟩ = false := (kB.set 0 (.int .i64 C)).frozen 3
   go_wp2_with fail
   refine (HL2.out _).mono ?_
   rintro e w4 ⟨rfl, hb4⟩
   have mC := m5_.below hb4 m5_.lt
   have kC := k5.below hb4 k5.lt
   have eC := e5.below hb4 e5.lt
   have hB4 := hB5.trans (hb4.mono hB5.size)
   clear z0 z3 k5 e5 m5_ hB5 x0 x1 x2 x3 x4 l0 l1 hb4 mB kB eB hB3 a0 a1 a2 a3 a4 a5 e0 e1 e2 e3 e4 c0 c1 c2 c3 c4 c5 c6 c7 c8 c9
   have z0 := eC.frozen 0
   have z1 := eC.frozen 1
   have z2 := eC.frozen 2
   have z3 := eC.frozen 3
   have z4 := eC.frozen 4
   obtain ⟨y0_, y1_, y2_, y3_, y4_⟩ := Blk.cells5 eC
   have eD := eC.set5 (.int .i64 3) (.int .u8 F2) (.int .i64 N2) (.int .i64 C2) (.bool B2)
   have kD := kC.far5 (b := w2.heap.size) (by omega) (.int .i64 3) (.int .u8 F2) (.int .i64 N2) (.int .i64 C2) (.bool B2)
   have mD := mC.far5 (b := w2.heap.size) (by omega) (.int .i64 3) (.int .u8 F2) (.int .i64 N2) (.int .i64 C2) (.bool B2)
   have hB6 := below_set5b hB4 (b := w2.heap.size) hlw (.int .i64 3) (.int .u8 F2) (.int .i64 N2) (.int .i64 C2) (.bool B2)
   go_upto_region 11 with (fail)
   clear z0 z1 z2 z3 z4 y0_ y1_ y2_ y3_ y4_ eC kC mC hB4
   generalize (((((w4.setCell ⟨w2.heap.size, 0, none⟩ (.int .i64 3)).setCell ⟨w2.heap.size, 1, none⟩ (.int .u8 F2)).setCell ⟨w2.heap.size, 2, none⟩ (.int .i64 N2)).setCell ⟨w2.heap.size, 3, none⟩ (.int .i64 C2)).setCell ⟨w2.heap.size, 4, none⟩ (.bool B2)) = W6 at *
   obtain ⟨a0, a1, a2, a3, a4, a5⟩ := Blk.cells6 kD
   obtain ⟨e0, e1, e2, e3, e4⟩ := Blk.cells5 eD
   obtain ⟨c0, c1, c2, c3, c4, c5, c6, c7, c8, c9⟩ := Blk.cells10 mD
   go_wp2_with fail
   refine (HT.out _).mono ?_
   rintro e w6 ⟨A6, c6_, rfl, hr6, hb6⟩
   go_wp2_with fail
   go_ret
   exact out_is E.out ⟨A6, c6_, rfl, hr6, hB6.trans (hb6.mono hB6.size)⟩
  ·cases m1 with
   | false =>
     rw [kyV, moV]
     have k2 := (Blk.new w 23 #[.bool m0, .bool false, .bool m2, .bool m3, .bool m4, .bool m5, .bool m6, .int .i64 m7, .int .i64 m8, .int .i64 m9]).alloc (.cells #[.int .i64 code, .int .i64 mods, .int .i64 typ, .int .i64 shift, .int .i64 base, .string text] 25)
     have k3 := Blk.new (w.alloc (.cells #[.bool m0, .bool false, .bool m2, .bool m3, .bool m4, .bool m5, .bool m6, .int .i64 m7, .int .i64 m8, .int .i64 m9] 23)) 25 #[.int .i64 code, .int .i64 mods, .int .i64 typ, .int .i64 shift, .int .i64 base, .string text]
     rw [World.size_alloc] at k3
     have hB0 : Below w.heap.size w ((w.alloc (.cells #[.bool m0, .bool false, .bool m2, .bool m3, .bool m4, .bool m5, .bool m6, .int .i64 m7, .int .i64 m8, .int .i64 m9] 23)).alloc (.cells #[.int .i64 code, .int .i64 mods, .int .i64 typ, .int .i64 shift, .int .i64 base, .string text] 25)) := ((Below.refl _ w).alloc (Nat.le_refl _) _).alloc (by simp) _
     obtain ⟨a0, a1, a2, a3, a4, a5⟩ := Blk.cells6 k3
     go_enter Tryz.func21, Tryz.ntmps21
     go_wp2_with fail
     refine (HM.out _).mono ?_
     rintro e w1 ⟨rfl, hb1⟩
     have m1_ := k2.below hb1 k2.lt
     have k1_ := k3.below hb1 k3.lt
     have hB1 := hB0.trans (hb1.mono hB0.size)
     clear k2 k3 hB0 hb1 a0 a1 a2 a3 a4 a5
     obtain ⟨a0, a1, a2, a3, a4, a5⟩ := Blk.cells6 k1_
     go_wp2_with fail
     refine (HL.out _).mono ?_
     rintro e w2 ⟨rfl, hb2⟩
     have m2_ := m1_.below hb2 m1_.lt
     have k2_ := k1_.below hb2 k1_.lt
     have hB2 := hB1.trans (hb2.mono hB1.size)
     clear m1_ k1_ hB1 hb2 a0 a1 a2 a3 a4 a5
     have m2a := m2_.alloc (.cells #[.int .i64 5, .int .u8 F, .int .i64 N, .int .i64 C, .bool B] 53)
     have k2a := k2_.alloc (.cells #[.int .i64 5, .int .u8 F, .int .i64 N, .int .i64 C, .bool B] 53)
     have e2a := Blk.new w2 53 #[.int .i64 5, .int .u8 F, .int .i64 N, .int .i64 C, .bool B]
     have hB2a := hB2.alloc hB2.size (.cells #[.int .i64 5, .int .u8 F, .int .i64 N, .int .i64 C, .bool B] 53)
     have hlk := k2_.lt
     obtain ⟨a0, a1, a2, a3, a4, a5⟩ := Blk.cells6 k2a
     go_wp2_with fail
     refine (HO.out _).mono ?_
     rintro e w3 ⟨rfl, hb3⟩
     have mB := m2a.below hb3 m2a.lt
     have kB := k2a.below hb3 k2a.lt
     have eB := e2a.below hb3 e2a.lt
     have hB3 := hB2a.trans (hb3.mono hB2a.size)
     clear m2_ k2_ m2a k2a e2a hB2a hb3 a0 a1 a2 a3 a4 a5
     have hlw := hB2.size
     obtain ⟨a0, a1, a2, a3, a4, a5⟩ := Blk.cells6 kB
     obtain ⟨e0, e1, e2, e3, e4⟩ := Blk.cells5 eB
     obtain ⟨c0, c1, c2, c3, c4, c5, c6, c7, c8, c9⟩ := Blk.cells10 mB
     have z0 := kB.frozen 0
     have z3 := kB.frozen 3
     have hne : w2.heap.size ≠ w.heap.size + 1 := by omega
     have k5 : Blk ((w3.setCell ⟨w.heap.size + 1, 0, none⟩ (.int .i64 C)).setCell ⟨w.heap.size + 1, 3, none⟩ (.int .i64 0)) (w.heap.size + 1) 25 #[.int .i64 C, .int .i64 mods, .int .i64 typ, .int .i64 0, .int .i64 base, .string text] := by
      have h0 : Blk _ (w.heap.size + 1) 25 #[.int .i64 C, .int .i64 mods, .int .i64 typ, .int .i64 shift, .int .i64 base, .string text] := kB.set 0 (.int .i64 C)
      exact h0.set 3 (.int .i64 0)
     have e5 := (eB.far (a := ⟨w.heap.size + 1, 0, none⟩) hne (.int .i64 C)).far (a := ⟨w.heap.size + 1, 3, none⟩) hne (.int .i64 0)
     have m5_ := (mB.far (a := ⟨w.heap.size + 1, 0, none⟩) (by show w.heap.size ≠ w.heap.size + 1; omega) (.int .i64 C)).far (a := ⟨w.heap.size + 1, 3, none⟩) (by show w.heap.size ≠ w.heap.size + 1; omega) (.int .i64 0)
     have hB5 := (hB3.setCell (p := ⟨w.heap.size + 1, 0, none⟩) (Nat.le_succ _) (.int .i64 C)).setCell (p := ⟨w.heap.size + 1, 3, none⟩) (Nat.le_succ _) (.int .i64 0)
     obtain ⟨x0, x1, x2, x3, x4⟩ := Blk.cells5 e5
     have l0 : (w3.setCell ⟨w.heap.size + 1, 0, none⟩ (.int .i64 C)).cell? ⟨w.heap.size + 1, 3, none⟩ = some (.int .i64 shift) := (kB.set 0 (.int .i64 C)).cell 3
     have l1 : (w3.setCell ⟨w.heap.size + 1, 0, none⟩ (.int .i64 C)).frozen? ⟨w.heap.size + 1, 3, none⟩ = false := (kB.set 0 (.int .i64 C)).frozen 3
     go_wp2_with fail
     refine (HL2.out _).mono ?_
     rintro e w4 ⟨rfl, hb4⟩
     have mC := m5_.below hb4 m5_.lt
     have kC := k5.below hb4 k5.lt
     have eC := e5.below hb4 e5.lt
     have hB4 := hB5.trans (hb4.mono hB5.size)
     clear z0 z3 k5 e5 m5_ hB5 x0 x1 x2 x3 x4 l0 l1 hb4 mB kB eB hB3 a0 a1 a2 a3 a4 a5 e0 e1 e2 e3 e4 c0 c1 c2 c3 c4 c5 c6 c7 c8 c9
     have z0 := eC.frozen 0
     have z1 := eC.frozen 1
     have z2 := eC.frozen 2
     have z3 := eC.frozen 3
     have z4 := eC.frozen 4
     obtain ⟨y0_, y1_, y2_, y3_, y4_⟩ := Blk.cells5 eC
     have eD := eC.set5 (.int .i64 3) (.int .u8 F2) (.int .i64 N2) (.int .i64 C2) (.bool B2)
     have kD := kC.far5 (b := w2.heap.size) (by omega) (.int .i64 3) (.int .u8 F2) (.int .i64 N2) (.int .i64 C2) (.bool B2)
     have mD := mC.far5 (b := w2.heap.size) (by omega) (.int .i64 3) (.int .u8 F2) (.int .i64 N2) (.int .i64 C2) (.bool B2)
     have hB6 := below_set5b hB4 (b := w2.heap.size) hlw (.int .i64 3) (.int .u8 F2) (.int .i64 N2) (.int .i64 C2) (.bool B2)
     go_upto_region 11 with (fail)
     clear z0 z1 z2 z3 z4 y0_ y1_ y2_ y3_ y4_ eC kC mC hB4
     generalize (((((w4.setCell ⟨w2.heap.size, 0, none⟩ (.int .i64 3)).setCell ⟨w2.heap.size, 1, none⟩ (.int .u8 F2)).setCell ⟨w2.heap.size, 2, none⟩ (.int .i64 N2)).setCell ⟨w2.heap.size, 3, none⟩ (.int .i64 C2)).setCell ⟨w2.heap.size, 4, none⟩ (.bool B2)) = W6 at *
     obtain ⟨a0, a1, a2, a3, a4, a5⟩ := Blk.cells6 kD
     obtain ⟨e0, e1, e2, e3, e4⟩ := Blk.cells5 eD
     obtain ⟨c0, c1, c2, c3, c4, c5, c6, c7, c8, c9⟩ := Blk.cells10 mD
     go_wp2_with fail
     refine (HT.out _).mono ?_
     rintro e w6 ⟨A6, c6_, rfl, hr6, hb6⟩
     go_wp2_with fail
     go_ret
     exact out_is E.out ⟨A6, c6_, rfl, hr6, hB6.trans (hb6.mono hB6.size)⟩
   | true =>
     rw [kyV, moV]
     have k2 := (Blk.new w 23 #[.bool m0, .bool true, .bool m2, .bool m3, .bool m4, .bool m5, .bool m6, .int .i64 m7, .int .i64 m8, .int .i64 m9]).alloc (.cells #[.int .i64 code, .int .i64 mods, .int .i64 typ, .int .i64 shift, .int .i64 base, .string text] 25)
     have k3 := Blk.new (w.alloc (.cells #[.bool m0, .bool true, .bool m2, .bool m3, .bool m4, .bool m5, .bool m6, .int .i64 m7, .int .i64 m8, .int .i64 m9] 23)) 25 #[.int .i64 code, .int .i64 mods, .int .i64 typ, .int .i64 shift, .int .i64 base, .string text]
     rw [World.size_alloc] at k3
     have hB0 : Below w.heap.size w ((w.alloc (.cells #[.bool m0, .bool true, .bool m2, .bool m3, .bool m4, .bool m5, .bool m6, .int .i64 m7, .int .i64 m8, .int .i64 m9] 23)).alloc (.cells #[.int .i64 code, .int .i64 mods, .int .i64 typ, .int .i64 shift, .int .i64 base, .string text] 25)) := ((Below.refl _ w).alloc (Nat.le_refl _) _).alloc (by simp) _
     obtain ⟨a0, a1, a2, a3, a4, a5⟩ := Blk.cells6 k3
     go_enter Tryz.func21, Tryz.ntmps21
     go_wp2_with fail
     refine (HM.out _).mono ?_
     rintro e w1 ⟨rfl, hb1⟩
     have m1_ := k2.below hb1 k2.lt
     have k1_ := k3.below hb1 k3.lt
     have hB1 := hB0.trans (hb1.mono hB0.size)
     clear k2 k3 hB0 hb1 a0 a1 a2 a3 a4 a5
     obtain ⟨a0, a1, a2, a3, a4, a5⟩ := Blk.cells6 k1_
     go_wp2_with fail
     refine (HL.out _).mono ?_
     rintro e w2 ⟨rfl, hb2⟩
     have m2_ := m1_.below hb2 m1_.lt
     have k2_ := k1_.below hb2 k1_.lt
     have hB2 := hB1.trans (hb2.mono hB1.size)
     clear m1_ k1_ hB1 hb2 a0 a1 a2 a3 a4 a5
     have m2a := m2_.alloc (.cells #[.int .i64 5, .int .u8 F, .int .i64 N, .int .i64 C, .bool B] 53)
     have k2a := k2_.alloc (.cells #[.int .i64 5, .int .u8 F, .int .i64 N, .int .i64 C, .bool B] 53)
     have e2a := Blk.new w2 53 #[.int .i64 5, .int .u8 F, .int .i64 N, .int .i64 C, .bool B]
     have hB2a := hB2.alloc hB2.size (.cells #[.int .i64 5, .int .u8 F, .int .i64 N, .int .i64 C, .bool B] 53)
     have hlk := k2_.lt
     obtain ⟨a0, a1, a2, a3, a4, a5⟩ := Blk.cells6 k2a
     go_wp2_with fail
     refine (HO.out _).mono ?_
     rintro e w3 ⟨rfl, hb3⟩
     have mB := m2a.below hb3 m2a.lt
     have kB := k2a.below hb3 k2a.lt
     have eB := e2a.below hb3 e2a.lt
     have hB3 := hB2a.trans (hb3.mono hB2a.size)
     clear m2_ k2_ m2a k2a e2a hB2a hb3 a0 a1 a2 a3 a4 a5
     have hlw := hB2.size
     obtain ⟨a0, a1, a2, a3, a4, a5⟩ := Blk.cells6 kB
     obtain ⟨e0, e1, e2, e3, e4⟩ := Blk.cells5 eB
     obtain ⟨c0, c1, c2, c3, c4, c5, c6, c7, c8, c9⟩ := Blk.cells10 mB
     have z0 := kB.frozen 0
     have z3 := kB.frozen 3
     have hne : w2.heap.size ≠ w.heap.size + 1 := by omega
     have k5 : Blk ((w3.setCell ⟨w.heap.size + 1, 0, none⟩ (.int .i64 C)).setCell ⟨w.heap.size + 1, 3, none⟩ (.int .i64 0)) (w.heap.size + 1) 25 #[.int .i64 C, .int .i64 mods, .int .i64 typ, .int .i64 0, .int .i64 base, .string text] := by
      have h0 : Blk _ (w.heap.size + 1) 25 #[.int .i64 C, .int .i64 mods, .int .i64 typ, .int .i64 shift, .int .i64 base, .string text] := kB.set 0 (.int .i64 C)
      exact h0.set 3 (.int .i64 0)
     have e5 := (eB.far (a := ⟨w.heap.size + 1, 0, none⟩) hne (.int .i64 C)).far (a := ⟨w.heap.size + 1, 3, none⟩) hne (.int .i64 0)
     have m5_ := (mB.far (a := ⟨w.heap.size + 1, 0, none⟩) (by show w.heap.size ≠ w.heap.size + 1; omega) (.int .i64 C)).far (a := ⟨w.heap.size + 1, 3, none⟩) (by show w.heap.size ≠ w.heap.size + 1; omega) (.int .i64 0)
     have hB5 := (hB3.setCell (p := ⟨w.heap.size + 1, 0, none⟩) (Nat.le_succ _) (.int .i64 C)).setCell (p := ⟨w.heap.size + 1, 3, none⟩) (Nat.le_succ _) (.int .i64 0)
     obtain ⟨x0, x1, x2, x3, x4⟩ := Blk.cells5 e5
     have l0 : (w3.setCell ⟨w.heap.size + 1, 0, none⟩ (.int .i64 C)).cell? ⟨w.heap.size + 1, 3, none⟩ = some (.int .i64 shift) := (kB.set 0 (.int .i64 C)).cell 3
     have l1 : (w3.setCell ⟨w.heap.size + 1, 0, none⟩ (.int .i64 C)).frozen? ⟨w.heap.size + 1, 3, none⟩ = false := (kB.set 0 (.int .i64 C)).frozen 3
     go_wp2_with fail
     refine (HL2.out _).mono ?_
     rintro e w4 ⟨rfl, hb4⟩
     have mC := m5_.below hb4 m5_.lt
     have kC := k5.below hb4 k5.lt
     have eC := e5.below hb4 e5.lt
     have hB4 := hB5.trans (hb4.mono hB5.size)
     clear z0 z3 k5 e5 m5_ hB5 x0 x1 x2 x3 x4 l0 l1 hb4 mB kB eB hB3 a0 a1 a2 a3 a4 a5 e0 e1 e2 e3 e4 c0 c1 c2 c3 c4 c5 c6 c7 c8 c9
     have z0 := eC.frozen 0
     have z1 := eC.frozen 1
     have z2 := eC.frozen 2
     have z3 := eC.frozen 3
     have z4 := eC.frozen 4
     obtain ⟨y0_, y1_, y2_, y3_, y4_⟩ := Blk.cells5 eC
     have eD := eC.set5 (.int .i64 3) (.int .u8 F2) (.int .i64 N2) (.int .i64 C2) (.bool B2)
     have kD := kC.far5 (b := w2.heap.size) (by omega) (.int .i64 3) (.int .u8 F2) (.int .i64 N2) (.int .i64 C2) (.bool B2)
     have mD := mC.far5 (b := w2.heap.size) (by omega) (.int .i64 3) (.int .u8 F2) (.int .i64 N2) (.int .i64 C2) (.bool B2)
     have hB6 := below_set5b hB4 (b := w2.heap.size) hlw (.int .i64 3) (.int .u8 F2) (.int .i64 N2) (.int .i64 C2) (.bool B2)
     go_upto_region 11 with (fail)
     clear z0 z1 z2 z3 z4 y0_ y1_ y2_ y3_ y4_ eC kC mC hB4
     generalize (((((w4.setCell ⟨w2.heap.size, 0, none⟩ (.int .i64 3)).setCell ⟨w2.heap.size, 1, none⟩ (.int .u8 F2)).setCell ⟨w2.heap.size, 2, none⟩ (.int .i64 N2)).setCell ⟨w2.heap.size, 3, none⟩ (.int .i64 C2)).setCell ⟨w2.heap.size, 4, none⟩ (.bool B2)) = W6 at *
     obtain ⟨a0, a1, a2, a3, a4, a5⟩ := Blk.cells6 kD
     obtain ⟨e0, e1, e2, e3, e4⟩ := Blk.cells5 eD
     obtain ⟨c0, c1, c2, c3, c4, c5, c6, c7, c8, c9⟩ := Blk.cells10 mD
     go_wp2_with fail
     refine (HT.out _).mono ?_
     rintro e w6 ⟨A6, c6_, rfl, hr6, hb6⟩
     go_wp2_with fail
     go_ret
     exact out_is E.out ⟨A6, c6_, rfl, hr6, hB6.trans (hb6.mono hB6.size)⟩
 ·subst hK
  rcases hkp2 with rfl | t0
  ·skip
   rw [kyV, moV]
   have k2 := (Blk.new w 23 #[.bool m0, .bool false, .bool m2, .bool m3, .bool m4, .bool m5, .bool m6, .int .i64 m7, .int .i64 m8, .int .i64 m9]).alloc (.cells #[.int .i64 code, .int .i64 mods, .int .i64 typ, .int .i64 shift, .int .i64 base, .string text] 25)
   have k3 := Blk.new (w.alloc (.cells #[.bool m0, .bool false, .bool m2, .bool m3, .bool m4, .bool m5, .bool m6, .int .i64 m7, .int .i64 m8, .int .i64 m9] 23)) 25 #[.int .i64 code, .int .i64 mods, .int .i64 typ, .int .i64 shift, .int .i64 base, .string text]
   rw [World.size_alloc] at k3
   have hB0 : Below w.heap.size w ((w.alloc (.cells #[.bool m0, .bool false, .bool m2, .bool m3, .bool m4, .bool m5, .bool m6, .int .i64 m7, .int .i64 m8, .int .i64 m9] 23)).alloc (.cells #[.int .i64 code, .int .i64 mods, .int .i64 typ, .int .i64 shift, .int .i64 base, .string text] 25)) := ((Below.refl _ w).alloc (Nat.le_refl _) _).alloc (by simp) _
   obtain ⟨a0, a1, a2, a3, a4, a5⟩ := Blk.cells6 k3
   go_enter Tryz.func21, Tryz.ntmps21
   go_wp2_with fail
   refine (HM.out _).mono ?_
   rintro e w1 ⟨rfl, hb1⟩
   have m1_ := k2.below hb1 k2.lt
   have k1_ := k3.below hb1 k3.lt
   have hB1 := hB0.trans (hb1.mono hB0.size)
   clear k2 k3 hB0 hb1 a0 a1 a2 a3 a4 a5
   obtain ⟨a0, a1, a2, a3, a4, a5⟩ := Blk.cells6 k1_
   go_wp2_with fail
   refine (HL.out _).mono ?_
   rintro e w2 ⟨rfl, hb2⟩
   have m2_ := m1_.below hb2 m1_.lt
   have k2_ := k1_.below hb2 k1_.lt
   have hB2 := hB1.trans (hb2.mono hB1.size)
   clear m1_ k1_ hB1 hb2 a0 a1 a2 a3 a4 a5
   have m2a := m2_.alloc (.cells #[.int .i64 5, .int .u8 F, .int .i64 N, .int .i64 C, .bool B] 53)
   have k2a := k2_.alloc (.cells #[.int .i64 5, .int .u8 F, .int .i64 N, .int .i64 C, .bool B] 53)
   have e2a := Blk.new w2 53 #[.int .i64 5, .int .u8 F, .int .i64 N, .int .i64 C, .bool B]
   have hB2a := hB2.alloc hB2.size (.cells #[.int .i64 5, .int .u8 F, .int .i64 N, .int .i64 C, .bool B] 53)
   have hlk := k2_.lt
   obtain ⟨a0, a1, a2, a3, a4, a5⟩ := Blk.cells6 k2a
   go_wp2_with fail
   refine (HO.out _).mono ?_
   rintro e w3 ⟨rfl, hb3⟩
   have mB := m2a.below hb3 m2a.lt
   have kB := k2a.below hb3 k2a.lt
   have eB := e2a.below hb3 e2a.lt
   have hB3 := hB2a.trans (hb3.mono hB2a.size)
   clear m2_ k2_ m2a k2a e2a hB2a hb3 a0 a1 a2 a3 a4 a5
   have hlw := hB2.size
   obtain ⟨a0, a1, a2, a3, a4, a5⟩ := Blk.cells6 kB
   obtain ⟨e0, e1, e2, e3, e4⟩ := Blk.cells5 eB
   obtain ⟨c0, c1, c2, c3, c4, c5, c6, c7, c8, c9⟩ := Blk.cells10 mB
   have z0 := kB.frozen 0
   have z3 := kB.frozen 3
   have hne : w2.heap.size ≠ w.heap.size + 1 := by omega
   have k5 : Blk ((w3.setCell ⟨w.heap.size + 1, 0, none⟩ (.int .i64 C)).setCell ⟨w.heap.size + 1, 3, none⟩ (.int .i64 0)) (w.heap.size + 1) 25 #[.int .i64 C, .int .i64 mods, .int .i64 typ, .int .i64 0, .int .i64 base, .string text] := by
    have h0 : Blk _ (w.heap.size + 1) 25 #[.int .i64 C, .int .i64 mods, .int .i64 typ, .int .i64 shift, .int .i64 base, .string text] := kB.set 0 (.int .i64 C)
    exact h0.set 3 (.int .i64 0)
   have e5 := (eB.far (a := ⟨w.heap.size + 1, 0, none⟩) hne (.int .i64 C)).far (a := ⟨w.heap.size + 1, 3, none⟩) hne (.int .i64 0)
   have m5_ := (mB.far (a := ⟨w.heap.size + 1, 0, none⟩) (by show w.heap.size ≠ w.heap.size + 1; omega) (.int .i64 C)).far (a := ⟨w.heap.size + 1, 3, none⟩) (by show w.heap.size ≠ w.heap.size + 1; omega) (.int .i64 0)
   have hB5 := (hB3.setCell (p := ⟨w.heap.size + 1, 0, none⟩) (Nat.le_succ _) (.int .i64 C)).setCell (p := ⟨w.heap.size + 1, 3, none⟩) (Nat.le_succ _) (.int .i64 0)
   obtain ⟨x0, x1, x2, x3, x4⟩ := Blk.cells5 e5
   have l0 : (w3.setCell ⟨w.heap.size + 1, 0, none⟩ (.int .i64 C)).cell? ⟨w.heap.size + 1, 3, none⟩ = some (.int .i64 shift) := (kB.set 0 (.int .i64 C)).cell 3
   have l1 : (w3.setCell ⟨w.heap.size + 1, 0, none⟩ (.int .i64 C)).frozen? ⟨w.heap.size + 1, 3, none⟩ = false := (kB.set 0 (.int .i64 C)).frozen 3
   go_wp2_with fail
   refine (HL2.out _).mono ?_
   rintro e w4 ⟨rfl, hb4⟩
   have mC := m5_.below hb4 m5_.lt
   have kC := k5.below hb4 k5.lt
   have eC := e5.below hb4 e5.lt
   have hB4 := hB5.trans (hb4.mono hB5.size)
   clear z0 z3 k5 e5 m5_ hB5 x0 x1 x2 x3 x4 l0 l1 hb4 mB kB eB hB3 a0 a1 a2 a3 a4 a5 e0 e1 e2 e3 e4 c0 c1 c2 c3 c4 c5 c6 c7 c8 c9
   have z0 := eC.frozen 0
   have z1 := eC.frozen 1
   have z2 := eC.frozen 2
   have z3 := eC.frozen 3
   have z4 := eC.frozen 4
   obtain ⟨y0_, y1_, y2_, y3_, y4_⟩ := Blk.cells5 eC
   have eD := eC.set5 (.int .i64 4) (.int .u8 F2) (.int .i64 N2) (.int .i64 C2) (.bool B2)
   have kD := kC.far5 (b := w2.heap.size) (by omega) (.int .i64 4) (.int .u8 F2) (.int .i64 N2) (.int .i64 C2) (.bool B2)
   have mD := mC.far5 (b := w2.heap.size) (by omega) (.int .i64 4) (.int .u8 F2) (.int .i64 N2) (.int .i64 C2) (.bool B2)
   have hB6 := below_set5b hB4 (b := w2.heap.size) hlw (.int .i64 4) (.int .u8 F2) (.int .i64 N2) (.int .i64 C2) (.bool B2)
   go_upto_region 11 with (fail)
   clear z0 z1 z2 z3 z4 y0_ y1_ y2_ y3_ y4_ eC kC mC hB4
   generalize (((((w4.setCell ⟨w2.heap.size, 0, none⟩ (.int .i64 4)).setCell ⟨w2.heap.size, 1, none⟩ (.int .u8 F2)).setCell ⟨w2.heap.size, 2, none⟩ (.int .i64 N2)).setCell ⟨w2.heap.size, 3, none⟩ (.int .i64 C2)).setCell ⟨w2.heap.size, 4, none⟩ (.bool B2)) = W6 at *
   obtain ⟨a0, a1, a2, a3, a4, a5⟩ := Blk.cells6 kD
   obtain ⟨e0, e1, e2, e3, e4⟩ := Blk.cells5 eD
   obtain ⟨c0, c1, c2, c3, c4, c5, c6, c7, c8, c9⟩ := Blk.cells10 mD
   go_wp2_with fail
   refine (HT.out _).mono ?_
   rintro e w6 ⟨A6, c6_, rfl, hr6, hb6⟩
   go_wp2_with fail
   go_ret
   exact out_is E.out ⟨A6, c6_, rfl, hr6, hB6.trans (hb6.mono hB6.size)⟩
  ·cases m1 with
   | false =>
     rw [kyV, moV]
     have k2 := (Blk.new w 23 #[.bool m0, .bool false, .bool m2, .bool m3, .bool m4, .bool m5, .bool m6, .int .i64 m7, .int .i64 m8, .int .i64 m9]).alloc (.cells #[.int .i64 code, .int .i64 mods, .int .i64 typ, .int .i64 shift, .int .i64 base, .string text] 25)
     have k3 := Blk.new (w.alloc (.cells #[.bool m0, .bool false, .bool m2, .bool m3, .bool m4, .bool m5, .bool m6, .int .i64 m7, .int .i64 m8, .int .i64 m9] 23)) 25 #[.int .i64 code, .int .i64 mods, .int .i64 typ, .int .i64 shift, .int .i64 base, .string text]
     rw [World.size_alloc] at k3
     have hB0 : Below w.heap.size w ((w.alloc (.cells #[.bool m0, .bool false, .bool m2, .bool m3, .bool m4, .bool m5, .bool m6, .int .i64 m7, .int .i64 m8, .int .i64 m9] 23)).alloc (.cells #[.int .i64 code, .int .i64 mods, .int .i64 typ, .int .i64 shift, .int .i64 base, .string text] 25)) := ((Below.refl _ w).alloc (Nat.le_refl _) _).alloc (by simp) _
     obtain ⟨a0, a1, a2, a3, a4, a5⟩ := Blk.cells6 k3
     go_enter Tryz.func21, Tryz.ntmps21
     go_wp2_with fail
     refine (HM.out _).mono ?_
     rintro e w1 ⟨rfl, hb1⟩
     have m1_ := k2.below hb1 k2.lt
     have k1_ := k3.below hb1 k3.lt
     have hB1 := hB0.trans (hb1.mono hB0.size)
     clear k2 k3 hB0 hb1 a0 a1 a2 a3 a4 a5
     obtain ⟨a0, a1, a2, a3, a4, a5⟩ := Blk.cells6 k1_
     go_wp2_with fail
     refine (HL.out _).mono ?_
     rintro e w2 ⟨rfl, hb2⟩
     have m2_ := m1_.below hb2 m1_.lt
     have k2_ := k1_.below hb2 k1_.lt
     have hB2 := hB1.trans (hb2.mono hB1.size)
     clear m1_ k1_ hB1 hb2 a0 a1 a2 a3 a4 a5
     have m2a := m2_.alloc (.cells #[.int .i64 5, .int .u8 F, .int .i64 N, .int .i64 C, .bool B] 53)
     have k2a := k2_.alloc (.cells #[.int .i64 5, .int .u8 F, .int .i64 N, .int .i64 C, .bool B] 53)
     have e2a := Blk.new w2 53 #[.int .i64 5, .int .u8 F, .int .i64 N, .int .i64 C, .bool B]
     have hB2a := hB2.alloc hB2.size (.cells #[.int .i64 5, .int .u8 F, .int .i64 N, .int .i64 C, .bool B] 53)
     have hlk := k2_.lt
     obtain ⟨a0, a1, a2, a3, a4, a5⟩ := Blk.cells6 k2a
     go_wp2_with fail
     refine (HO.out _).mono ?_
     rintro e w3 ⟨rfl, hb3⟩
     have mB := m2a.below hb3 m2a.lt
     have kB := k2a.below hb3 k2a.lt
     have eB := e2a.below hb3 e2a.lt
     have hB3 := hB2a.trans (hb3.mono hB2a.size)
     clear m2_ k2_ m2a k2a e2a hB2a hb3 a0 a1 a2 a3 a4 a5
     have hlw := hB2.size
     obtain ⟨a0, a1, a2, a3, a4, a5⟩ := Blk.cells6 kB
     obtain ⟨e0, e1, e2, e3, e4⟩ := Blk.cells5 eB
     obtain ⟨c0, c1, c2, c3, c4, c5, c6, c7, c8, c9⟩ := Blk.cells10 mB
     have z0 := kB.frozen 0
     have z3 := kB.frozen 3
     have hne : w2.heap.size ≠ w.heap.size + 1 := by omega
     have k5 : Blk ((w3.setCell ⟨w.heap.size + 1, 0, none⟩ (.int .i64 C)).setCell ⟨w.heap.size + 1, 3, none⟩ (.int .i64 0)) (w.heap.size + 1) 25 #[.int .i64 C, .int .i64 mods, .int .i64 typ, .int .i64 0, .int .i64 base, .string text] := by
      have h0 : Blk _ (w.heap.size + 1) 25 #[.int .i64 C, .int .i64 mods, .int .i64 typ, .int .i64 shift, .int .i64 base, .string text] := kB.set 0 (.int .i64 C)
      exact h0.set 3 (.int .i64 0)
     have e5 := (eB.far (a := ⟨w.heap.size + 1, 0, none⟩) hne (.int .i64 C)).far (a := ⟨w.heap.size + 1, 3, none⟩) hne (.int .i64 0)
     have m5_ := (mB.far (a := ⟨w.heap.size + 1, 0, none⟩) (by show w.heap.size ≠ w.heap.size + 1; omega) (.int .i64 C)).far (a := ⟨w.heap.size + 1, 3, none⟩) (by show w.heap.size ≠ w.heap.size + 1; omega) (.int .i64 0)
     have hB5 := (hB3.setCell (p := ⟨w.heap.size + 1, 0, none⟩) (Nat.le_succ _) (.int .i64 C)).setCell (p := ⟨w.heap.size + 1, 3, none⟩) (Nat.le_succ _) (.int .i64 0)
     obtain ⟨x0, x1, x2, x3, x4⟩ := Blk.cells5 e5
     have l0 : (w3.setCell ⟨w.heap.size + 1, 0, none⟩ (.int .i64 C)).cell? ⟨w.heap.size + 1, 3, none⟩ = some (.int .i64 shift) := (kB.set 0 (.int .i64 C)).cell 3
     have l1 : (w3.setCell ⟨w.heap.size + 1, 0, none⟩ (.int .i64 C)).frozen? ⟨w.heap.size + 1, 3, none⟩ = false := (kB.set 0 (.int .i64 C)).frozen 3
     go_wp2_with fail
     refine (HL2.out _).mono ?_
     rintro e w4 ⟨rfl, hb4⟩
     have mC := m5_.below hb4 m5_.lt
     have kC := k5.below hb4 k5.lt
     have eC := e5.below hb4 e5.lt
     have hB4 := hB5.trans (hb4.mono hB5.size)
     clear z0 z3 k5 e5 m5_ hB5 x0 x1 x2 x3 x4 l0 l1 hb4 mB kB eB hB3 a0 a1 a2 a3 a4 a5 e0 e1 e2 e3 e4 c0 c1 c2 c3 c4 c5 c6 c7 c8 c9
     have z0 := eC.frozen 0
     have z1 := eC.frozen 1
     have z2 := eC.frozen 2
     have z3 := eC.frozen 3
     have z4 := eC.frozen 4
     obtain ⟨y0_, y1_, y2_, y3_, y4_⟩ := Blk.cells5 eC
     have eD := eC.set5 (.int .i64 4) (.int .u8 F2) (.int .i64 N2) (.int .i64 C2) (.bool B2)
     have kD := kC.far5 (b := w2.heap.size) (by omega) (.int .i64 4) (.int .u8 F2) (.int .i64 N2) (.int .i64 C2) (.bool B2)
     have mD := mC.far5 (b := w2.heap.size) (by omega) (.int .i64 4) (.int .u8 F2) (.int .i64 N2) (.int .i64 C2) (.bool B2)
     have hB6 := below_set5b hB4 (b := w2.heap.size) hlw (.int .i64 4) (.int .u8 F2) (.int .i64 N2) (.int .i64 C2) (.bool B2)
     go_upto_region 11 with (fail)
     clear z0 z1 z2 z3 z4 y0_ y1_ y2_ y3_ y4_ eC kC mC hB4
     generalize (((((w4.setCell ⟨w2.heap.size, 0, none⟩ (.int .i64 4)).setCell ⟨w2.heap.size, 1, none⟩ (.int .u8 F2)).setCell ⟨w2.heap.size, 2, none⟩ (.int .i64 N2)).setCell ⟨w2.heap.size, 3, none⟩ (.int .i64 C2)).setCell ⟨w2.heap.size, 4, none⟩ (.bool B2)) = W6 at *
     obtain ⟨a0, a1, a2, a3, a4, a5⟩ := Blk.cells6 kD
     obtain ⟨e0, e1, e2, e3, e4⟩ := Blk.cells5 eD
     obtain ⟨c0, c1, c2, c3, c4, c5, c6, c7, c8, c9⟩ := Blk.cells10 mD
     go_wp2_with fail
     refine (HT.out _).mono ?_
     rintro e w6 ⟨A6, c6_, rfl, hr6, hb6⟩
     go_wp2_with fail
     go_ret
     exact out_is E.out ⟨A6, c6_, rfl, hr6, hB6.trans (hb6.mono hB6.size)⟩
   | true =>
     rw [kyV, moV]
     have k2 := (Blk.new w 23 #[.bool m0, .bool true, .bool m2, .bool m3, .bool m4, .bool m5, .bool m6, .int .i64 m7, .int .i64 m8, .int .i64 m9]).alloc (.cells #[.int .i64 code, .int .i64 mods, .int .i64 typ, .int .i64 shift, .int .i64 base, .string text] 25)
     have k3 := Blk.new (w.alloc (.cells #[.bool m0, .bool true, .bool m2, .bool m3, .bool m4, .bool m5, .bool m6, .int .i64 m7, .int .i64 m8, .int .i64 m9] 23)) 25 #[.int .i64 code, .int .i64 mods, .int .i64 typ, .int .i64 shift, .int .i64 base, .string text]
     rw [World.size_alloc] at k3
     have hB0 : Below w.heap.size w ((w.alloc (.cells #[.bool m0, .bool true, .bool m2, .bool m3, .bool m4, .bool m5, .bool m6, .int .i64 m7, .int .i64 m8, .int .i64 m9] 23)).alloc (.cells #[.int .i64 code, .int .i64 mods, .int .i64 typ, .int .i64 shift, .int .i64 base, .string text] 25)) := ((Below.refl _ w).alloc (Nat.le_refl _) _).alloc (by simp) _
     obtain ⟨a0, a1, a2, a3, a4, a5⟩ := Blk.cells6 k3
     go_enter Tryz.func21, Tryz.ntmps21
     go_wp2_with fail
     refine (HM.out _).mono ?_
     rintro e w1 ⟨rfl, hb1⟩
     have m1_ := k2.below hb1 k2.lt
     have k1_ := k3.below hb1 k3.lt
     have hB1 := hB0.trans (hb1.mono hB0.size)
     clear k2 k3 hB0 hb1 a0 a1 a2 a3 a4 a5
     obtain ⟨a0, a1, a2, a3, a4, a5⟩ := Blk.cells6 k1_
     go_wp2_with fail
     refine (HL.out _).mono ?_
     rintro e w2 ⟨rfl, hb2⟩
     have m2_ := m1_.below hb2 m1_.lt
     have k2_ := k1_.below hb2 k1_.lt
     have hB2 := hB1.trans (hb2.mono hB1.size)
     clear m1_ k1_ hB1 hb2 a0 a1 a2 a3 a4 a5
     have m2a := m2_.alloc (.cells #[.int .i64 5, .int .u8 F, .int .i64 N, .int .i64 C, .bool B] 53)
     have k2a := k2_.alloc (.cells #[.int .i64 5, .int .u8 F, .int .i64 N, .int .i64 C, .bool B] 53)
     have e2a := Blk.new w2 53 #[.int .i64 5, .int .u8 F, .int .i64 N, .int .i64 C, .bool B]
     have hB2a := hB2.alloc hB2.size (.cells #[.int .i64 5, .int .u8 F, .int .i64 N, .int .i64 C, .bool B] 53)
     have hlk := k2_.lt
     obtain ⟨a0, a1, a2, a3, a4, a5⟩ := Blk.cells6 k2a
     go_wp2_with fail
     refine (HO.out _).mono ?_
     rintro e w3 ⟨rfl, hb3⟩
     have mB := m2a.below hb3 m2a.lt
     have kB := k2a.below hb3 k2a.lt
     have eB := e2a.below hb3 e2a.lt
     have hB3 := hB2a.trans (hb3.mono hB2a.size)
     clear m2_ k2_ m2a k2a e2a hB2a hb3 a0 a1 a2 a3 a4 a5
     have hlw := hB2.size
     obtain ⟨a0, a1, a2, a3, a4, a5⟩ := Blk.cells6 kB
     obtain ⟨e0, e1, e2, e3, e4⟩ := Blk.cells5 eB
     obtain ⟨c0, c1, c2, c3, c4, c5, c6, c7, c8, c9⟩ := Blk.cells10 mB
     have z0 := kB.frozen 0
     have z3 := kB.frozen 3
     have hne : w2.heap.size ≠ w.heap.size + 1 := by omega
     have k5 : Blk ((w3.setCell ⟨w.heap.size + 1, 0, none⟩ (.int .i64 C)).setCell ⟨w.heap.size + 1, 3, none⟩ (.int .i64 0)) (w.heap.size + 1) 25 #[.int .i64 C, .int .i64 mods, .int .i64 typ, .int .i64 0, .int .i64 base, .string text] := by
      have h0 : Blk _ (w.heap.size + 1) 25 #[.int .i64 C, .int .i64 mods, .int .i64 typ, .int .i64 shift, .int .i64 base, .string text] := kB.set 0 (.int .i64 C)
      exact h0.set 3 (.int .i64 0)
     have e5 := (eB.far (a := ⟨w.heap.size + 1, 0, none⟩) hne (.int .i64 C)).far (a := ⟨w.heap.size + 1, 3, none⟩) hne (.int .i64 0)
     have m5_ := (mB.far (a := ⟨w.heap.size + 1, 0, none⟩) (by show w.heap.size ≠ w.heap.size + 1; omega) (.int .i64 C)).far (a := ⟨w.heap.size + 1, 3, none⟩) (by show w.heap.size ≠ w.heap.size + 1; omega) (.int .i64 0)
     have hB5 := (hB3.setCell (p := ⟨w.heap.size + 1, 0, none⟩) (Nat.le_succ _) (.int .i64 C)).setCell (p := ⟨w.heap.size + 1, 3, none⟩) (Nat.le_succ _) (.int .i64 0)
     obtain ⟨x0, x1, x2, x3, x4⟩ := Blk.cells5 e5
     have l0 : (w3.setCell ⟨w.heap.size + 1, 0, none⟩ (.int .i64 C)).cell? ⟨w.heap.size + 1, 3, none⟩ = some (.int .i64 shift) := (kB.set 0 (.int .i64 C)).cell 3
     have l1 : (w3.setCell ⟨w.heap.size + 1, 0, none⟩ (.int .i64 C)).frozen? ⟨w.heap.size + 1, 3, none⟩ = false := (kB.set 0 (.int .i64 C)).frozen 3
     go_wp2_with fail
     refine (HL2.out _).mono ?_
     rintro e w4 ⟨rfl, hb4⟩
     have mC := m5_.below hb4 m5_.lt
     have kC := k5.below hb4 k5.lt
     have eC := e5.below hb4 e5.lt
     have hB4 := hB5.trans (hb4.mono hB5.size)
     clear z0 z3 k5 e5 m5_ hB5 x0 x1 x2 x3 x4 l0 l1 hb4 mB kB eB hB3 a0 a1 a2 a3 a4 a5 e0 e1 e2 e3 e4 c0 c1 c2 c3 c4 c5 c6 c7 c8 c9
     have z0 := eC.frozen 0
     have z1 := eC.frozen 1
     have z2 := eC.frozen 2
     have z3 := eC.frozen 3
     have z4 := eC.frozen 4
     obtain ⟨y0_, y1_, y2_, y3_, y4_⟩ := Blk.cells5 eC
     have eD := eC.set5 (.int .i64 4) (.int .u8 F2) (.int .i64 N2) (.int .i64 C2) (.bool B2)
     have kD := kC.far5 (b := w2.heap.size) (by omega) (.int .i64 4) (.int .u8 F2) (.int .i64 N2) (.int .i64 C2) (.bool B2)
     have mD := mC.far5 (b := w2.heap.size) (by omega) (.int .i64 4) (.int .u8 F2) (.int .i64 N2) (.int .i64 C2) (.bool B2)
     have hB6 := below_set5b hB4 (b := w2.heap.size) hlw (.int .i64 4) (.int .u8 F2) (.int .i64 N2) (.int .i64 C2) (.bool B2)
     go_upto_region 11 with (fail)
     clear z0 z1 z2 z3 z4 y0_ y1_ y2_ y3_ y4_ eC kC mC hB4
     generalize (((((w4.setCell ⟨w2.heap.size, 0, none⟩ (.int .i64 4)).setCell ⟨w2.heap.size, 1, none⟩ (.int .u8 F2)).setCell ⟨w2.heap.size, 2, none⟩ (.int .i64 N2)).setCell ⟨w2.heap.size, 3, none⟩ (.int .i64 C2)).setCell ⟨w2.heap.size, 4, none⟩ (.bool B2)) = W6 at *
     obtain ⟨a0, a1, a2, a3, a4, a5⟩ := Blk.cells6 kD
     obtain ⟨e0, e1, e2, e3, e4⟩ := Blk.cells5 eD
     obtain ⟨c0, c1, c2, c3, c4, c5, c6, c7, c8, c9⟩ := Blk.cells10 mD
     go_wp2_with fail
     refine (HT.out _).mono ?_
     rintro e w6 ⟨A6, c6_, rfl, hr6, hb6⟩
     go_wp2_with fail
     go_ret
     exact out_is E.out ⟨A6, c6_, rfl, hr6, hB6.trans (hb6.mono hB6.size)⟩
end Go.Proofs.YtceipblcdcgljaaGreatDoor
