/-
  Layer 16, walked: the document's guess.
-/
import Derived.Test.YtjlhhelikiegdaaGreatDoorG24
import Derived.Test.YtjlhhelikiegdaaGreatDoorG26
import Derived.Deep.Cut
namespace Go.Proofs.YtjlhhelikiegdaaGreatDoor
open Go.RowKit
set_option maxRecDepth 100000 in
set_option maxHeartbeats 16000000 in
theorem rguess16_any (n x y : Int) (rel : Bool) (g : Ms) (h0 : 0 ≤ n) (h1 : n ≤ 2000000) (hg : guessM n x y rel = g) (w : World) : Calls Tryz.prog 30 #[.int .i64 n, .int .i64 x, .int .i64 y, .bool rel] w fun e w' => e = .returned (.agg #[.int .i64 g.btn, .int .i64 g.typ, .int .i64 g.x, .int .i64 g.y, .int .i64 g.mods]) ∧ Below w.heap.size w w' := by
 unfold guessM at hg
 obtain ⟨d, hd⟩ : ∃ d, n / 4 = d := ⟨_, rfl⟩
 obtain ⟨m, hm⟩ : ∃ m, d % 8 = m := ⟨_, rfl⟩
 obtain ⟨s, hs⟩ : ∃ s, d % 16 = s := ⟨_, rfl⟩
 obtain ⟨b, hb⟩ : ∃ b, n - s * 4 = b := ⟨_, rfl⟩
 obtain ⟨z, hz⟩ : ∃ z, n / 32 = z := ⟨_, rfl⟩
 obtain ⟨v, hv⟩ : ∃ v, z % 2 = v := ⟨_, rfl⟩
 rw [hd, hm, hs, hb, hz, hv] at hg
 have t1 : Int.tdiv n 4 = d := by rw [Int.tdiv_eq_ediv_of_nonneg h0, hd]
 have t2 : Int.tmod d 8 = m := by rw [Int.tmod_eq_emod_of_nonneg (by omega), hm]
 have t3 : Int.tmod d 16 = s := by rw [Int.tmod_eq_emod_of_nonneg (by omega), hs]
 have t4 : Int.tdiv n 32 = z := by rw [Int.tdiv_eq_ediv_of_nonneg h0, hz]
 have t6 : Int.tmod z 2 = v := by rw [Int.tmod_eq_emod_of_nonneg (by omega), hv]
 have w1 : IntKind.i64.wrap (s * 4) = s * 4 := by rw [IntKind.wrap_i64]; omega
 have w2 : IntKind.i64.wrap (n - s * 4) = b := by rw [IntKind.wrap_i64]; omega
 have w3 : IntKind.i64.wrap d = d := by rw [IntKind.wrap_i64]; omega
 have w4 : IntKind.i64.wrap z = z := by rw [IntKind.wrap_i64]; omega
 have br : -100 ≤ b ∧ b ≤ 2000000 := by omega
 clear hd hm hs hb hz hv h0 h1
 have k8 := (Blk.new w 23 #[.int .i64 0, .int .i64 0, .int .i64 0, .int .i64 0, .int .i64 0]).alloc (.cells #[.int .i64 0, .int .i64 1, .int .i64 x, .int .i64 y, .int .i64 m] 23)
 have k9 := Blk.new (w.alloc (.cells #[.int .i64 0, .int .i64 0, .int .i64 0, .int .i64 0, .int .i64 0] 23)) 23 #[.int .i64 0, .int .i64 1, .int .i64 x, .int .i64 y, .int .i64 m]
 rw [World.size_alloc] at k9
 have hB : Below w.heap.size w ((w.alloc (.cells #[.int .i64 0, .int .i64 0, .int .i64 0, .int .i64 0, .int .i64 0] 23)).alloc (.cells #[.int .i64 0, .int .i64 1, .int .i64 x, .int .i64 y, .int .i64 m] 23)) := ((Below.refl _ w).alloc (Nat.le_refl _) _).alloc (by simp) _
 go_enter Tryz.func30, Tryz.ntmps30
 go_upto_region 2 with (fail)
 obtain ⟨W1, hW1⟩ : ∃ W, (w.alloc (.cells #[.int .i64 0, .int .i64 0, .int .i64 0, .int .i64 0, .int .i64 0] 23)).alloc (.cells #[.int .i64 0, .int .i64 1, .int .i64 x, .int .i64 y, .int .i64 m] 23) = W := ⟨_, rfl⟩
 rw [hW1] at k8 k9 hB ⊢
 clear hW1
 cases rel with
 | true =>
   by_cases c1 : 128 ≤ b
   ·by_cases h1 : v = 1
    ·have t5 : (v == 1) = true := by rw [h1]; rfl
     have HF := Lib.hid (show (⟨b - 120, 3, x, y, m⟩ : Ms) = g by rw [← hg, if_pos c1, if_pos rfl])
     clear hg h1
     have hw : IntKind.i64.wrap (b - 120) = b - 120 := by rw [IntKind.wrap_i64]; omega
     have f1 := k9.frozen 0
     have a1 := k9.set 0 (.int .i64 (b - 120))
     have e1 := k8.far (a := ⟨w.heap.size + 1, 0, none⟩) (show w.heap.size ≠ w.heap.size + 1 by omega) (.int .i64 (b - 120))
     have b1 := hB.setCell (p := ⟨w.heap.size + 1, 0, none⟩) (show w.heap.size ≤ w.heap.size + 1 by omega) (.int .i64 (b - 120))
     have u1 := k9.cell 0
     obtain ⟨V1, hV1⟩ : ∃ V, W1.setCell ⟨w.heap.size + 1, 0, none⟩ (.int .i64 (b - 120)) = V := ⟨_, rfl⟩
     rw [hV1] at a1 e1 b1
     clear k9 k8 hB
     have f2 := a1.frozen 1
     have a2 := a1.set 1 (.int .i64 4)
     have e2 := e1.far (a := ⟨w.heap.size + 1, 1, none⟩) (show w.heap.size ≠ w.heap.size + 1 by omega) (.int .i64 4)
     have b2 := b1.setCell (p := ⟨w.heap.size + 1, 1, none⟩) (show w.heap.size ≤ w.heap.size + 1 by omega) (.int .i64 4)
     have u2 := a1.cell 1
     obtain ⟨V2, hV2⟩ : ∃ V, V1.setCell ⟨w.heap.size + 1, 1, none⟩ (.int .i64 4) = V := ⟨_, rfl⟩
     rw [hV2] at a2 e2 b2
     clear a1 e1 b1
     have f3 := a2.frozen 1
     have a3 := a2.set 1 (.int .i64 3)
     have e3 := e2.far (a := ⟨w.heap.size + 1, 1, none⟩) (show w.heap.size ≠ w.heap.size + 1 by omega) (.int .i64 3)
     have b3 := b2.setCell (p := ⟨w.heap.size + 1, 1, none⟩) (show w.heap.size ≤ w.heap.size + 1 by omega) (.int .i64 3)
     have u3 := a2.cell 1
     obtain ⟨V3, hV3⟩ : ∃ V, V2.setCell ⟨w.heap.size + 1, 1, none⟩ (.int .i64 3) = V := ⟨_, rfl⟩
     rw [hV3] at a3 e3 b3
     clear a2 e2 b2
     have q0 := a3.cell 0
     have q1 := a3.cell 1
     have q2 := a3.cell 2
     have q3 := a3.cell 3
     have q4 := a3.cell 4
     obtain ⟨z0, z1, z2, z3, z4⟩ := Blk.cells5 e3
     have y0 := e3.frozen 0
     have y1 := e3.frozen 1
     have y2 := e3.frozen 2
     have y3 := e3.frozen 3
     have y4 := e3.frozen 4
     have rE := (((((e3).set 0 (.int .i64 (b - 120))).set 1 (.int .i64 (3))).set 2 (.int .i64 (x))).set 3 (.int .i64 (y))).set 4 (.int .i64 (m))
     obtain ⟨x0, x1, x2, x3, x4⟩ := Blk.cells5 rE
     have hBE := (((((b3).setCell (p := ⟨w.heap.size, 0, none⟩) (Nat.le_refl _) (.int .i64 (b - 120))).setCell (p := ⟨w.heap.size, 1, none⟩) (Nat.le_refl _) (.int .i64 (3))).setCell (p := ⟨w.heap.size, 2, none⟩) (Nat.le_refl _) (.int .i64 (x))).setCell (p := ⟨w.heap.size, 3, none⟩) (Nat.le_refl _) (.int .i64 (y))).setCell (p := ⟨w.heap.size, 4, none⟩) (Nat.le_refl _) (.int .i64 (m))
     clear rE
     go_wp2_with fail
     refine bodyPost_ret (v := .agg #[.int .i64 (b - 120), .int .i64 3, .int .i64 x, .int .i64 y, .int .i64 m]) (by simp [results, Tryz.results30, go_sem, x0, x1, x2, x3, x4]) rfl ⟨by rw [← HF.out], hBE⟩
    ·have t5 : (v == 1) = false := beq_false_of_ne h1
     have HF := Lib.hid (show (⟨b - 120, 3, x, y, m⟩ : Ms) = g by rw [← hg, if_pos c1, if_pos rfl])
     clear hg h1
     have hw : IntKind.i64.wrap (b - 120) = b - 120 := by rw [IntKind.wrap_i64]; omega
     have f1 := k9.frozen 0
     have a1 := k9.set 0 (.int .i64 (b - 120))
     have e1 := k8.far (a := ⟨w.heap.size + 1, 0, none⟩) (show w.heap.size ≠ w.heap.size + 1 by omega) (.int .i64 (b - 120))
     have b1 := hB.setCell (p := ⟨w.heap.size + 1, 0, none⟩) (show w.heap.size ≤ w.heap.size + 1 by omega) (.int .i64 (b - 120))
     have u1 := k9.cell 0
     obtain ⟨V1, hV1⟩ : ∃ V, W1.setCell ⟨w.heap.size + 1, 0, none⟩ (.int .i64 (b - 120)) = V := ⟨_, rfl⟩
     rw [hV1] at a1 e1 b1
     clear k9 k8 hB
     have f2 := a1.frozen 1
     have a2 := a1.set 1 (.int .i64 3)
     have e2 := e1.far (a := ⟨w.heap.size + 1, 1, none⟩) (show w.heap.size ≠ w.heap.size + 1 by omega) (.int .i64 3)
     have b2 := b1.setCell (p := ⟨w.heap.size + 1, 1, none⟩) (show w.heap.size ≤ w.heap.size + 1 by omega) (.int .i64 3)
     have u2 := a1.cell 1
     obtain ⟨V2, hV2⟩ : ∃ V, V1.setCell ⟨w.heap.size + 1, 1, none⟩ (.int .i64 3) = V := ⟨_, rfl⟩
     rw [hV2] at a2 e2 b2
     clear a1 e1 b1
     have q0 := a2.cell 0
     have q1 := a2.cell 1
     have q2 := a2.cell 2
     have q3 := a2.cell 3
     have q4 := a2.cell 4
     obtain ⟨z0, z1, z2, z3, z4⟩ := Blk.cells5 e2
     have y0 := e2.frozen 0
     have y1 := e2.frozen 1
     have y2 := e2.frozen 2
     have y3 := e2.frozen 3
     have y4 := e2.frozen 4
     have rE := (((((e2).set 0 (.int .i64 (b - 120))).set 1 (.int .i64 (3))).set 2 (.int .i64 (x))).set 3 (.int .i64 (y))).set 4 (.int .i64 (m))
     obtain ⟨x0, x1, x2, x3, x4⟩ := Blk.cells5 rE
     have hBE := (((((b2).setCell (p := ⟨w.heap.size, 0, none⟩) (Nat.le_refl _) (.int .i64 (b - 120))).setCell (p := ⟨w.heap.size, 1, none⟩) (Nat.le_refl _) (.int .i64 (3))).setCell (p := ⟨w.heap.size, 2, none⟩) (Nat.le_refl _) (.int .i64 (x))).setCell (p := ⟨w.heap.size, 3, none⟩) (Nat.le_refl _) (.int .i64 (y))).setCell (p := ⟨w.heap.size, 4, none⟩) (Nat.le_refl _) (.int .i64 (m))
     clear rE
     go_wp2_with fail
     refine bodyPost_ret (v := .agg #[.int .i64 (b - 120), .int .i64 3, .int .i64 x, .int .i64 y, .int .i64 m]) (by simp [results, Tryz.results30, go_sem, x0, x1, x2, x3, x4]) rfl ⟨by rw [← HF.out], hBE⟩
   by_cases c2 : 64 ≤ b
   ·by_cases h1 : v = 1
    ·have t5 : (v == 1) = true := by rw [h1]; rfl
     have HF := Lib.hid (show (⟨b - 60, 3, x, y, m⟩ : Ms) = g by rw [← hg, if_neg c1, if_pos c2, if_pos rfl])
     clear hg h1
     have hw : IntKind.i64.wrap (b - 60) = b - 60 := by rw [IntKind.wrap_i64]; omega
     have f1 := k9.frozen 0
     have a1 := k9.set 0 (.int .i64 (b - 60))
     have e1 := k8.far (a := ⟨w.heap.size + 1, 0, none⟩) (show w.heap.size ≠ w.heap.size + 1 by omega) (.int .i64 (b - 60))
     have b1 := hB.setCell (p := ⟨w.heap.size + 1, 0, none⟩) (show w.heap.size ≤ w.heap.size + 1 by omega) (.int .i64 (b - 60))
     have u1 := k9.cell 0
     obtain ⟨V1, hV1⟩ : ∃ V, W1.setCell ⟨w.heap.size + 1, 0, none⟩ (.int .i64 (b - 60)) = V := ⟨_, rfl⟩
     rw [hV1] at a1 e1 b1
     clear k9 k8 hB
     have f2 := a1.frozen 1
     have a2 := a1.set 1 (.int .i64 4)
     have e2 := e1.far (a := ⟨w.heap.size + 1, 1, none⟩) (show w.heap.size ≠ w.heap.size + 1 by omega) (.int .i64 4)
     have b2 := b1.setCell (p := ⟨w.heap.size + 1, 1, none⟩) (show w.heap.size ≤ w.heap.size + 1 by omega) (.int .i64 4)
     have u2 := a1.cell 1
     obtain ⟨V2, hV2⟩ : ∃ V, V1.setCell ⟨w.heap.size + 1, 1, none⟩ (.int .i64 4) = V := ⟨_, rfl⟩
     rw [hV2] at a2 e2 b2
     clear a1 e1 b1
     have f3 := a2.frozen 1
     have a3 := a2.set 1 (.int .i64 3)
     have e3 := e2.far (a := ⟨w.heap.size + 1, 1, none⟩) (show w.heap.size ≠ w.heap.size + 1 by omega) (.int .i64 3)
     have b3 := b2.setCell (p := ⟨w.heap.size + 1, 1, none⟩) (show w.heap.size ≤ w.heap.size + 1 by omega) (.int .i64 3)
     have u3 := a2.cell 1
     obtain ⟨V3, hV3⟩ : ∃ V, V2.setCell ⟨w.heap.size + 1, 1, none⟩ (.int .i64 3) = V := ⟨_, rfl⟩
     rw [hV3] at a3 e3 b3
     clear a2 e2 b2
     have q0 := a3.cell 0
     have q1 := a3.cell 1
     have q2 := a3.cell 2
     have q3 := a3.cell 3
     have q4 := a3.cell 4
     obtain ⟨z0, z1, z2, z3, z4⟩ := Blk.cells5 e3
     have y0 := e3.frozen 0
     have y1 := e3.frozen 1
     have y2 := e3.frozen 2
     have y3 := e3.frozen 3
     have y4 := e3.frozen 4
     have rE := (((((e3).set 0 (.int .i64 (b - 60))).set 1 (.int .i64 (3))).set 2 (.int .i64 (x))).set 3 (.int .i64 (y))).set 4 (.int .i64 (m))
     obtain ⟨x0, x1, x2, x3, x4⟩ := Blk.cells5 rE
     have hBE := (((((b3).setCell (p := ⟨w.heap.size, 0, none⟩) (Nat.le_refl _) (.int .i64 (b - 60))).setCell (p := ⟨w.heap.size, 1, none⟩) (Nat.le_refl _) (.int .i64 (3))).setCell (p := ⟨w.heap.size, 2, none⟩) (Nat.le_refl _) (.int .i64 (x))).setCell (p := ⟨w.heap.size, 3, none⟩) (Nat.le_refl _) (.int .i64 (y))).setCell (p := ⟨w.heap.size, 4, none⟩) (Nat.le_refl _) (.int .i64 (m))
     clear rE
     go_wp2_with fail
     refine bodyPost_ret (v := .agg #[.int .i64 (b - 60), .int .i64 3, .int .i64 x, .int .i64 y, .int .i64 m]) (by simp [results, Tryz.results30, go_sem, x0, x1, x2, x3, x4]) rfl ⟨by rw [← HF.out], hBE⟩
    ·have t5 : (v == 1) = false := beq_false_of_ne h1
     have HF := Lib.hid (show (⟨b - 60, 3, x, y, m⟩ : Ms) = g by rw [← hg, if_neg c1, if_pos c2, if_pos rfl])
     clear hg h1
     have hw : IntKind.i64.wrap (b - 60) = b - 60 := by rw [IntKind.wrap_i64]; omega
     have f1 := k9.frozen 0
     have a1 := k9.set 0 (.int .i64 (b - 60))
     have e1 := k8.far (a := ⟨w.heap.size + 1, 0, none⟩) (show w.heap.size ≠ w.heap.size + 1 by omega) (.int .i64 (b - 60))
     have b1 := hB.setCell (p := ⟨w.heap.size + 1, 0, none⟩) (show w.heap.size ≤ w.heap.size + 1 by omega) (.int .i64 (b - 60))
     have u1 := k9.cell 0
     obtain ⟨V1, hV1⟩ : ∃ V, W1.setCell ⟨w.heap.size + 1, 0, none⟩ (.int .i64 (b - 60)) = V := ⟨_, rfl⟩
     rw [hV1] at a1 e1 b1
     clear k9 k8 hB
     have f2 := a1.frozen 1
     have a2 := a1.set 1 (.int .i64 3)
     have e2 := e1.far (a := ⟨w.heap.size + 1, 1, none⟩) (show w.heap.size ≠ w.heap.size + 1 by omega) (.int .i64 3)
     have b2 := b1.setCell (p := ⟨w.heap.size + 1, 1, none⟩) (show w.heap.size ≤ w.heap.size + 1 by omega) (.int .i64 3)
     have u2 := a1.cell 1
     obtain ⟨V2, hV2⟩ : ∃ V, V1.setCell ⟨w.heap.size + 1, 1, none⟩ (.int .i64 3) = V := ⟨_, rfl⟩
     rw [hV2] at a2 e2 b2
     clear a1 e1 b1
     have q0 := a2.cell 0
     have q1 := a2.cell 1
     have q2 := a2.cell 2
     have q3 := a2.cell 3
     have q4 := a2.cell 4
     obtain ⟨z0, z1, z2, z3, z4⟩ := Blk.cells5 e2
     have y0 := e2.frozen 0
     have y1 := e2.frozen 1
     have y2 := e2.frozen 2
     have y3 := e2.frozen 3
     have y4 := e2.frozen 4
     have rE := (((((e2).set 0 (.int .i64 (b - 60))).set 1 (.int .i64 (3))).set 2 (.int .i64 (x))).set 3 (.int .i64 (y))).set 4 (.int .i64 (m))
     obtain ⟨x0, x1, x2, x3, x4⟩ := Blk.cells5 rE
     have hBE := (((((b2).setCell (p := ⟨w.heap.size, 0, none⟩) (Nat.le_refl _) (.int .i64 (b - 60))).setCell (p := ⟨w.heap.size, 1, none⟩) (Nat.le_refl _) (.int .i64 (3))).setCell (p := ⟨w.heap.size, 2, none⟩) (Nat.le_refl _) (.int .i64 (x))).setCell (p := ⟨w.heap.size, 3, none⟩) (Nat.le_refl _) (.int .i64 (y))).setCell (p := ⟨w.heap.size, 4, none⟩) (Nat.le_refl _) (.int .i64 (m))
     clear rE
     go_wp2_with fail
     refine bodyPost_ret (v := .agg #[.int .i64 (b - 60), .int .i64 3, .int .i64 x, .int .i64 y, .int .i64 m]) (by simp [results, Tryz.results30, go_sem, x0, x1, x2, x3, x4]) rfl ⟨by rw [← HF.out], hBE⟩
   by_cases c3 : b < 3
   ·by_cases h1 : v = 1
    ·have t5 : (v == 1) = true := by rw [h1]; rfl
     have HF := Lib.hid (show (⟨b + 1, 3, x, y, m⟩ : Ms) = g by rw [← hg, if_neg c1, if_neg c2, if_pos c3, if_pos rfl])
     clear hg h1
     have hw : IntKind.i64.wrap (b + 1) = b + 1 := by rw [IntKind.wrap_i64]; omega
     have f1 := k9.frozen 0
     have a1 := k9.set 0 (.int .i64 (b + 1))
     have e1 := k8.far (a := ⟨w.heap.size + 1, 0, none⟩) (show w.heap.size ≠ w.heap.size + 1 by omega) (.int .i64 (b + 1))
     have b1 := hB.setCell (p := ⟨w.heap.size + 1, 0, none⟩) (show w.heap.size ≤ w.heap.size + 1 by omega) (.int .i64 (b + 1))
     have u1 := k9.cell 0
     obtain ⟨V1, hV1⟩ : ∃ V, W1.setCell ⟨w.heap.size + 1, 0, none⟩ (.int .i64 (b + 1)) = V := ⟨_, rfl⟩
     rw [hV1] at a1 e1 b1
     clear k9 k8 hB
     have f2 := a1.frozen 1
     have a2 := a1.set 1 (.int .i64 4)
     have e2 := e1.far (a := ⟨w.heap.size + 1, 1, none⟩) (show w.heap.size ≠ w.heap.size + 1 by omega) (.int .i64 4)
     have b2 := b1.setCell (p := ⟨w.heap.size + 1, 1, none⟩) (show w.heap.size ≤ w.heap.size + 1 by omega) (.int .i64 4)
     have u2 := a1.cell 1
     obtain ⟨V2, hV2⟩ : ∃ V, V1.setCell ⟨w.heap.size + 1, 1, none⟩ (.int .i64 4) = V := ⟨_, rfl⟩
     rw [hV2] at a2 e2 b2
     clear a1 e1 b1
     have f3 := a2.frozen 1
     have a3 := a2.set 1 (.int .i64 3)
     have e3 := e2.far (a := ⟨w.heap.size + 1, 1, none⟩) (show w.heap.size ≠ w.heap.size + 1 by omega) (.int .i64 3)
     have b3 := b2.setCell (p := ⟨w.heap.size + 1, 1, none⟩) (show w.heap.size ≤ w.heap.size + 1 by omega) (.int .i64 3)
     have u3 := a2.cell 1
     obtain ⟨V3, hV3⟩ : ∃ V, V2.setCell ⟨w.heap.size + 1, 1, none⟩ (.int .i64 3) = V := ⟨_, rfl⟩
     rw [hV3] at a3 e3 b3
     clear a2 e2 b2
     have q0 := a3.cell 0
     have q1 := a3.cell 1
     have q2 := a3.cell 2
     have q3 := a3.cell 3
     have q4 := a3.cell 4
     obtain ⟨z0, z1, z2, z3, z4⟩ := Blk.cells5 e3
     have y0 := e3.frozen 0
     have y1 := e3.frozen 1
     have y2 := e3.frozen 2
     have y3 := e3.frozen 3
     have y4 := e3.frozen 4
     have rE := (((((e3).set 0 (.int .i64 (b + 1))).set 1 (.int .i64 (3))).set 2 (.int .i64 (x))).set 3 (.int .i64 (y))).set 4 (.int .i64 (m))
     obtain ⟨x0, x1, x2, x3, x4⟩ := Blk.cells5 rE
     have hBE := (((((b3).setCell (p := ⟨w.heap.size, 0, none⟩) (Nat.le_refl _) (.int .i64 (b + 1))).setCell (p := ⟨w.heap.size, 1, none⟩) (Nat.le_refl _) (.int .i64 (3))).setCell (p := ⟨w.heap.size, 2, none⟩) (Nat.le_refl _) (.int .i64 (x))).setCell (p := ⟨w.heap.size, 3, none⟩) (Nat.le_refl _) (.int .i64 (y))).setCell (p := ⟨w.heap.size, 4, none⟩) (Nat.le_refl _) (.int .i64 (m))
     clear rE
     go_wp2_with fail
     refine bodyPost_ret (v := .agg #[.int .i64 (b + 1), .int .i64 3, .int .i64 x, .int .i64 y, .int .i64 m]) (by simp [results, Tryz.results30, go_sem, x0, x1, x2, x3, x4]) rfl ⟨by rw [← HF.out], hBE⟩
    ·have t5 : (v == 1) = false := beq_false_of_ne h1
     have HF := Lib.hid (show (⟨b + 1, 3, x, y, m⟩ : Ms) = g by rw [← hg, if_neg c1, if_neg c2, if_pos c3, if_pos rfl])
     clear hg h1
     have hw : IntKind.i64.wrap (b + 1) = b + 1 := by rw [IntKind.wrap_i64]; omega
     have f1 := k9.frozen 0
     have a1 := k9.set 0 (.int .i64 (b + 1))
     have e1 := k8.far (a := ⟨w.heap.size + 1, 0, none⟩) (show w.heap.size ≠ w.heap.size + 1 by omega) (.int .i64 (b + 1))
     have b1 := hB.setCell (p := ⟨w.heap.size + 1, 0, none⟩) (show w.heap.size ≤ w.heap.size + 1 by omega) (.int .i64 (b + 1))
     have u1 := k9.cell 0
     obtain ⟨V1, hV1⟩ : ∃ V, W1.setCell ⟨w.heap.size + 1, 0, none⟩ (.int .i64 (b + 1)) = V := ⟨_, rfl⟩
     rw [hV1] at a1 e1 b1
     clear k9 k8 hB
     have f2 := a1.frozen 1
     have a2 := a1.set 1 (.int .i64 3)
     have e2 := e1.far (a := ⟨w.heap.size + 1, 1, none⟩) (show w.heap.size ≠ w.heap.size + 1 by omega) (.int .i64 3)
     have b2 := b1.setCell (p := ⟨w.heap.size + 1, 1, none⟩) (show w.heap.size ≤ w.heap.size + 1 by omega) (.int .i64 3)
     have u2 := a1.cell 1
     obtain ⟨V2, hV2⟩ : ∃ V, V1.setCell ⟨w.heap.size + 1, 1, none⟩ (.int .i64 3) = V := ⟨_, rfl⟩
     rw [hV2] at a2 e2 b2
     clear a1 e1 b1
     have q0 := a2.cell 0
     have q1 := a2.cell 1
     have q2 := a2.cell 2
     have q3 := a2.cell 3
     have q4 := a2.cell 4
     obtain ⟨z0, z1, z2, z3, z4⟩ := Blk.cells5 e2
     have y0 := e2.frozen 0
     have y1 := e2.frozen 1
     have y2 := e2.frozen 2
     have y3 := e2.frozen 3
     have y4 := e2.frozen 4
     have rE := (((((e2).set 0 (.int .i64 (b + 1))).set 1 (.int .i64 (3))).set 2 (.int .i64 (x))).set 3 (.int .i64 (y))).set 4 (.int .i64 (m))
     obtain ⟨x0, x1, x2, x3, x4⟩ := Blk.cells5 rE
     have hBE := (((((b2).setCell (p := ⟨w.heap.size, 0, none⟩) (Nat.le_refl _) (.int .i64 (b + 1))).setCell (p := ⟨w.heap.size, 1, none⟩) (Nat.le_refl _) (.int .i64 (3))).setCell (p := ⟨w.heap.size, 2, none⟩) (Nat.le_refl _) (.int .i64 (x))).setCell (p := ⟨w.heap.size, 3, none⟩) (Nat.le_refl _) (.int .i64 (y))).setCell (p := ⟨w.heap.size, 4, none⟩) (Nat.le_refl _) (.int .i64 (m))
     clear rE
     go_wp2_with fail
     refine bodyPost_ret (v := .agg #[.int .i64 (b + 1), .int .i64 3, .int .i64 x, .int .i64 y, .int .i64 m]) (by simp [results, Tryz.results30, go_sem, x0, x1, x2, x3, x4]) rfl ⟨by rw [← HF.out], hBE⟩
   by_cases h1 : v = 1
   ·have t5 : (v == 1) = true := by rw [h1]; rfl
    have HF := Lib.hid (show (⟨0, 3, x, y, m⟩ : Ms) = g by rw [← hg, if_neg c1, if_neg c2, if_neg c3, if_pos rfl])
    clear hg h1
    have f1 := k9.frozen 1
    have a1 := k9.set 1 (.int .i64 4)
    have e1 := k8.far (a := ⟨w.heap.size + 1, 1, none⟩) (show w.heap.size ≠ w.heap.size + 1 by omega) (.int .i64 4)
    have b1 := hB.setCell (p := ⟨w.heap.size + 1, 1, none⟩) (show w.heap.size ≤ w.heap.size + 1 by omega) (.int .i64 4)
    have u1 := k9.cell 1
    obtain ⟨V1, hV1⟩ : ∃ V, W1.setCell ⟨w.heap.size + 1, 1, none⟩ (.int .i64 4) = V := ⟨_, rfl⟩
    rw [hV1] at a1 e1 b1
    clear k9 k8 hB
    have f2 := a1.frozen 1
    have a2 := a1.set 1 (.int .i64 3)
    have e2 := e1.far (a := ⟨w.heap.size + 1, 1, none⟩) (show w.heap.size ≠ w.heap.size + 1 by omega) (.int .i64 3)
    have b2 := b1.setCell (p := ⟨w.heap.size + 1, 1, none⟩) (show w.heap.size ≤ w.heap.size + 1 by omega) (.int .i64 3)
    have u2 := a1.cell 1
    obtain ⟨V2, hV2⟩ : ∃ V, V1.setCell ⟨w.heap.size + 1, 1, none⟩ (.int .i64 3) = V := ⟨_, rfl⟩
    rw [hV2] at a2 e2 b2
    clear a1 e1 b1
    have q0 := a2.cell 0
    have q1 := a2.cell 1
    have q2 := a2.cell 2
    have q3 := a2.cell 3
    have q4 := a2.cell 4
    obtain ⟨z0, z1, z2, z3, z4⟩ := Blk.cells5 e2
    have y0 := e2.frozen 0
    have y1 := e2.frozen 1
    have y2 := e2.frozen 2
    have y3 := e2.frozen 3
    have y4 := e2.frozen 4
    have rE := (((((e2).set 0 (.int .i64 (0))).set 1 (.int .i64 (3))).set 2 (.int .i64 (x))).set 3 (.int .i64 (y))).set 4 (.int .i64 (m))
    obtain ⟨x0, x1, x2, x3, x4⟩ := Blk.cells5 rE
    have hBE := (((((b2).setCell (p := ⟨w.heap.size, 0, none⟩) (Nat.le_refl _) (.int .i64 (0))).setCell (p := ⟨w.heap.size, 1, none⟩) (Nat.le_refl _) (.int .i64 (3))).setCell (p := ⟨w.heap.size, 2, none⟩) (Nat.le_refl _) (.int .i64 (x))).setCell (p := ⟨w.heap.size, 3, none⟩) (Nat.le_refl _) (.int .i64 (y))).setCell (p := ⟨w.heap.size, 4, none⟩) (Nat.le_refl _) (.int .i64 (m))
    clear rE
    go_wp2_with fail
    refine bodyPost_ret (v := .agg #[.int .i64 (0), .int .i64 3, .int .i64 x, .int .i64 y, .int .i64 m]) (by simp [results, Tryz.results30, go_sem, x0, x1, x2, x3, x4]) rfl ⟨by rw [← HF.out], hBE⟩
   ·have t5 : (v == 1) = false := beq_false_of_ne h1
    have HF := Lib.hid (show (⟨0, 3, x, y, m⟩ : Ms) = g by rw [← hg, if_neg c1, if_neg c2, if_neg c3, if_pos rfl])
    clear hg h1
    have f1 := k9.frozen 1
    have a1 := k9.set 1 (.int .i64 3)
    have e1 := k8.far (a := ⟨w.heap.size + 1, 1, none⟩) (show w.heap.size ≠ w.heap.size + 1 by omega) (.int .i64 3)
    have b1 := hB.setCell (p := ⟨w.heap.size + 1, 1, none⟩) (show w.heap.size ≤ w.heap.size + 1 by omega) (.int .i64 3)
    have u1 := k9.cell 1
    obtain ⟨V1, hV1⟩ : ∃ V, W1.setCell ⟨w.heap.size + 1, 1, none⟩ (.int .i64 3) = V := ⟨_, rfl⟩
    rw [hV1] at a1 e1 b1
    clear k9 k8 hB
    have q0 := a1.cell 0
    have q1 := a1.cell 1
    have q2 := a1.cell 2
    have q3 := a1.cell 3
    have q4 := a1.cell 4
    obtain ⟨z0, z1, z2, z3, z4⟩ := Blk.cells5 e1
    have y0 := e1.frozen 0
    have y1 := e1.frozen 1
    have y2 := e1.frozen 2
    have y3 := e1.frozen 3
    have y4 := e1.frozen 4
    have rE := (((((e1).set 0 (.int .i64 (0))).set 1 (.int .i64 (3))).set 2 (.int .i64 (x))).set 3 (.int .i64 (y))).set 4 (.int .i64 (m))
    obtain ⟨x0, x1, x2, x3, x4⟩ := Blk.cells5 rE
    have hBE := (((((b1).setCell (p := ⟨w.heap.size, 0, none⟩) (Nat.le_refl _) (.int .i64 (0))).setCell (p := ⟨w.heap.size, 1, none⟩) (Nat.le_refl _) (.int .i64 (3))).setCell (p := ⟨w.heap.size, 2, none⟩) (Nat.le_refl _) (.int .i64 (x))).setCell (p := ⟨w.heap.size, 3, none⟩) (Nat.le_refl _) (.int .i64 (y))).setCell (p := ⟨w.heap.size, 4, none⟩) (Nat.le_refl _) (.int .i64 (m))
    clear rE
    go_wp2_with fail
    refine bodyPost_ret (v := .agg #[.int .i64 (0), .int .i64 3, .int .i64 x, .int .i64 y, .int .i64 m]) (by simp [results, Tryz.results30, go_sem, x0, x1, x2, x3, x4]) rfl ⟨by rw [← HF.out], hBE⟩
 | false =>
   by_cases c1 : 128 ≤ b
   ·by_cases h1 : v = 1
    ·have t5 : (v == 1) = true := by rw [h1]; rfl
     have HF := Lib.hid (show (⟨b - 120, 4, x, y, m⟩ : Ms) = g by rw [← hg, if_pos c1, if_neg (show ¬ (false = true) by decide), if_pos h1])
     clear hg h1
     have hw : IntKind.i64.wrap (b - 120) = b - 120 := by rw [IntKind.wrap_i64]; omega
     have f1 := k9.frozen 0
     have a1 := k9.set 0 (.int .i64 (b - 120))
     have e1 := k8.far (a := ⟨w.heap.size + 1, 0, none⟩) (show w.heap.size ≠ w.heap.size + 1 by omega) (.int .i64 (b - 120))
     have b1 := hB.setCell (p := ⟨w.heap.size + 1, 0, none⟩) (show w.heap.size ≤ w.heap.size + 1 by omega) (.int .i64 (b - 120))
     have u1 := k9.cell 0
     obtain ⟨V1, hV1⟩ : ∃ V, W1.setCell ⟨w.heap.size + 1, 0, none⟩ (.int .i64 (b - 120)) = V := ⟨_, rfl⟩
     rw [hV1] at a1 e1 b1
     clear k9 k8 hB
     have f2 := a1.frozen 1
     have a2 := a1.set 1 (.int .i64 4)
     have e2 := e1.far (a := ⟨w.heap.size + 1, 1, none⟩) (show w.heap.size ≠ w.heap.size + 1 by omega) (.int .i64 4)
     have b2 := b1.setCell (p := ⟨w.heap.size + 1, 1, none⟩) (show w.heap.size ≤ w.heap.size + 1 by omega) (.int .i64 4)
     have u2 := a1.cell 1
     obtain ⟨V2, hV2⟩ : ∃ V, V1.setCell ⟨w.heap.size + 1, 1, none⟩ (.int .i64 4) = V := ⟨_, rfl⟩
     rw [hV2] at a2 e2 b2
     clear a1 e1 b1
     have q0 := a2.cell 0
     have q1 := a2.cell 1
     have q2 := a2.cell 2
     have q3 := a2.cell 3
     have q4 := a2.cell 4
     obtain ⟨z0, z1, z2, z3, z4⟩ := Blk.cells5 e2
     have y0 := e2.frozen 0
     have y1 := e2.frozen 1
     have y2 := e2.frozen 2
     have y3 := e2.frozen 3
     have y4 := e2.frozen 4
     have rE := (((((e2).set 0 (.int .i64 (b - 120))).set 1 (.int .i64 (4))).set 2 (.int .i64 (x))).set 3 (.int .i64 (y))).set 4 (.int .i64 (m))
     obtain ⟨x0, x1, x2, x3, x4⟩ := Blk.cells5 rE
     have hBE := (((((b2).setCell (p := ⟨w.heap.size, 0, none⟩) (Nat.le_refl _) (.int .i64 (b - 120))).setCell (p := ⟨w.heap.size, 1, none⟩) (Nat.le_refl _) (.int .i64 (4))).setCell (p := ⟨w.heap.size, 2, none⟩) (Nat.le_refl _) (.int .i64 (x))).setCell (p := ⟨w.heap.size, 3, none⟩) (Nat.le_refl _) (.int .i64 (y))).setCell (p := ⟨w.heap.size, 4, none⟩) (Nat.le_refl _) (.int .i64 (m))
     clear rE
     go_wp2_with fail
     refine bodyPost_ret (v := .agg #[.int .i64 (b - 120), .int .i64 4, .int .i64 x, .int .i64 y, .int .i64 m]) (by simp [results, Tryz.results30, go_sem, x0, x1, x2, x3, x4]) rfl ⟨by rw [← HF.out], hBE⟩
    ·have t5 : (v == 1) = false := beq_false_of_ne h1
     have HF := Lib.hid (show (⟨b - 120, 1, x, y, m⟩ : Ms) = g by rw [← hg, if_pos c1, if_neg (show ¬ (false = true) by decide), if_neg h1])
     clear hg h1
     have hw : IntKind.i64.wrap (b - 120) = b - 120 := by rw [IntKind.wrap_i64]; omega
     have f1 := k9.frozen 0
     have a1 := k9.set 0 (.int .i64 (b - 120))
     have e1 := k8.far (a := ⟨w.heap.size + 1, 0, none⟩) (show w.heap.size ≠ w.heap.size + 1 by omega) (.int .i64 (b - 120))
     have b1 := hB.setCell (p := ⟨w.heap.size + 1, 0, none⟩) (show w.heap.size ≤ w.heap.size + 1 by omega) (.int .i64 (b - 120))
     have u1 := k9.cell 0
     obtain ⟨V1, hV1⟩ : ∃ V, W1.setCell ⟨w.heap.size + 1, 0, none⟩ (.int .i64 (b - 120)) = V := ⟨_, rfl⟩
     rw [hV1] at a1 e1 b1
     clear k9 k8 hB
     have q0 := a1.cell 0
     have q1 := a1.cell 1
     have q2 := a1.cell 2
     have q3 := a1.cell 3
     have q4 := a1.cell 4
     obtain ⟨z0, z1, z2, z3, z4⟩ := Blk.cells5 e1
     have y0 := e1.frozen 0
     have y1 := e1.frozen 1
     have y2 := e1.frozen 2
     have y3 := e1.frozen 3
     have y4 := e1.frozen 4
     have rE := (((((e1).set 0 (.int .i64 (b - 120))).set 1 (.int .i64 (1))).set 2 (.int .i64 (x))).set 3 (.int .i64 (y))).set 4 (.int .i64 (m))
     obtain ⟨x0, x1, x2, x3, x4⟩ := Blk.cells5 rE
     have hBE := (((((b1).setCell (p := ⟨w.heap.size, 0, none⟩) (Nat.le_refl _) (.int .i64 (b - 120))).setCell (p := ⟨w.heap.size, 1, none⟩) (Nat.le_refl _) (.int .i64 (1))).setCell (p := ⟨w.heap.size, 2, none⟩) (Nat.le_refl _) (.int .i64 (x))).setCell (p := ⟨w.heap.size, 3, none⟩) (Nat.le_refl _) (.int .i64 (y))).setCell (p := ⟨w.heap.size, 4, none⟩) (Nat.le_refl _) (.int .i64 (m))
     clear rE
     go_wp2_with fail
     refine bodyPost_ret (v := .agg #[.int .i64 (b - 120), .int .i64 1, .int .i64 x, .int .i64 y, .int .i64 m]) (by simp [results, Tryz.results30, go_sem, x0, x1, x2, x3, x4]) rfl ⟨by rw [← HF.out], hBE⟩
   by_cases c2 : 64 ≤ b
   ·by_cases h1 : v = 1
    ·have t5 : (v == 1) = true := by rw [h1]; rfl
     have HF := Lib.hid (show (⟨b - 60, 4, x, y, m⟩ : Ms) = g by rw [← hg, if_neg c1, if_pos c2, if_neg (show ¬ (false = true) by decide), if_pos h1])
     clear hg h1
     have hw : IntKind.i64.wrap (b - 60) = b - 60 := by rw [IntKind.wrap_i64]; omega
     have f1 := k9.frozen 0
     have a1 := k9.set 0 (.int .i64 (b - 60))
     have e1 := k8.far (a := ⟨w.heap.size + 1, 0, none⟩) (show w.heap.size ≠ w.heap.size + 1 by omega) (.int .i64 (b - 60))
     have b1 := hB.setCell (p := ⟨w.heap.size + 1, 0, none⟩) (show w.heap.size ≤ w.heap.size + 1 by omega) (.int .i64 (b - 60))
     have u1 := k9.cell 0
     obtain ⟨V1, hV1⟩ : ∃ V, W1.setCell ⟨w.heap.size + 1, 0, none⟩ (.int .i64 (b - 60)) = V := ⟨_, rfl⟩
     rw [hV1] at a1 e1 b1
     clear k9 k8 hB
     have f2 := a1.frozen 1
     have a2 := a1.set 1 (.int .i64 4)
     have e2 := e1.far (a := ⟨w.heap.size + 1, 1, none⟩) (show w.heap.size ≠ w.heap.size + 1 by omega) (.int .i64 4)
     have b2 := b1.setCell (p := ⟨w.heap.size + 1, 1, none⟩) (show w.heap.size ≤ w.heap.size + 1 by omega) (.int .i64 4)
     have u2 := a1.cell 1
     obtain ⟨V2, hV2⟩ : ∃ V, V1.setCell ⟨w.heap.size + 1, 1, none⟩ (.int .i64 4) = V := ⟨_, rfl⟩
     rw [hV2] at a2 e2 b2
     clear a1 e1 b1
     have q0 := a2.cell 0
     have q1 := a2.cell 1
     have q2 := a2.cell 2
     have q3 := a2.cell 3
     have q4 := a2.cell 4
     obtain ⟨z0, z1, z2, z3, z4⟩ := Blk.cells5 e2
     have y0 := e2.frozen 0
     have y1 := e2.frozen 1
     have y2 := e2.frozen 2
     have y3 := e2.frozen 3
     have y4 := e2.frozen 4
     have rE := (((((e2).set 0 (.int .i64 (b - 60))).set 1 (.int .i64 (4))).set 2 (.int .i64 (x))).set 3 (.int .i64 (y))).set 4 (.int .i64 (m))
     obtain ⟨x0, x1, x2, x3, x4⟩ := Blk.cells5 rE
     have hBE := (((((b2).setCell (p := ⟨w.heap.size, 0, none⟩) (Nat.le_refl _) (.int .i64 (b - 60))).setCell (p := ⟨w.heap.size, 1, none⟩) (Nat.le_refl _) (.int .i64 (4))).setCell (p := ⟨w.heap.size, 2, none⟩) (Nat.le_refl _) (.int .i64 (x))).setCell (p := ⟨w.heap.size, 3, none⟩) (Nat.le_refl _) (.int .i64 (y))).setCell (p := ⟨w.heap.size, 4, none⟩) (Nat.le_refl _) (.int .i64 (m))
     clear rE
     go_wp2_with fail
     refine bodyPost_ret (v := .agg #[.int .i64 (b - 60), .int .i64 4, .int .i64 x, .int .i64 y, .int .i64 m]) (by simp [results, Tryz.results30, go_sem, x0, x1, x2, x3, x4]) rfl ⟨by rw [← HF.out], hBE⟩
    ·have t5 : (v == 1) = false := beq_false_of_ne h1
     have HF := Lib.hid (show (⟨b - 60, 1, x, y, m⟩ : Ms) = g by rw [← hg, if_neg c1, if_pos c2, if_neg (show ¬ (false = true) by decide), if_neg h1])
     clear hg h1
     have hw : IntKind.i64.wrap (b - 60) = b - 60 := by rw [IntKind.wrap_i64]; omega
     have f1 := k9.frozen 0
     have a1 := k9.set 0 (.int .i64 (b - 60))
     have e1 := k8.far (a := ⟨w.heap.size + 1, 0, none⟩) (show w.heap.size ≠ w.heap.size + 1 by omega) (.int .i64 (b - 60))
     have b1 := hB.setCell (p := ⟨w.heap.size + 1, 0, none⟩) (show w.heap.size ≤ w.heap.size + 1 by omega) (.int .i64 (b - 60))
     have u1 := k9.cell 0
     obtain ⟨V1, hV1⟩ : ∃ V, W1.setCell ⟨w.heap.size + 1, 0, none⟩ (.int .i64 (b - 60)) = V := ⟨_, rfl⟩
     rw [hV1] at a1 e1 b1
     clear k9 k8 hB
     have q0 := a1.cell 0
     have q1 := a1.cell 1
     have q2 := a1.cell 2
     have q3 := a1.cell 3
     have q4 := a1.cell 4
     obtain ⟨z0, z1, z2, z3, z4⟩ := Blk.cells5 e1
     have y0 := e1.frozen 0
     have y1 := e1.frozen 1
     have y2 := e1.frozen 2
     have y3 := e1.frozen 3
     have y4 := e1.frozen 4
     have rE := (((((e1).set 0 (.int .i64 (b - 60))).set 1 (.int .i64 (1))).set 2 (.int .i64 (x))).set 3 (.int .i64 (y))).set 4 (.int .i64 (m))
     obtain ⟨x0, x1, x2, x3, x4⟩ := Blk.cells5 rE
     have hBE := (((((b1).setCell (p := ⟨w.heap.size, 0, none⟩) (Nat.le_refl _) (.int .i64 (b - 60))).setCell (p := ⟨w.heap.size, 1, none⟩) (Nat.le_refl _) (.int .i64 (1))).setCell (p := ⟨w.heap.size, 2, none⟩) (Nat.le_refl _) (.int .i64 (x))).setCell (p := ⟨w.heap.size, 3, none⟩) (Nat.le_refl _) (.int .i64 (y))).setCell (p := ⟨w.heap.size, 4, none⟩) (Nat.le_refl _) (.int .i64 (m))
     clear rE
     go_wp2_with fail
     refine bodyPost_ret (v := .agg #[.int .i64 (b - 60), .int .i64 1, .int .i64 x, .int .i64 y, .int .i64 m]) (by simp [results, Tryz.results30, go_sem, x0, x1, x2, x3, x4]) rfl ⟨by rw [← HF.out], hBE⟩
   by_cases c3 : b < 3
   ·by_cases h1 : v = 1
    ·have t5 : (v == 1) = true := by rw [h1]; rfl
     have HF := Lib.hid (show (⟨b + 1, 4, x, y, m⟩ : Ms) = g by rw [← hg, if_neg c1, if_neg c2, if_pos c3, if_neg (show ¬ (false = true) by decide), if_pos h1])
     clear hg h1
     have hw : IntKind.i64.wrap (b + 1) = b + 1 := by rw [IntKind.wrap_i64]; omega
     have f1 := k9.frozen 0
     have a1 := k9.set 0 (.int .i64 (b + 1))
     have e1 := k8.far (a := ⟨w.heap.size + 1, 0, none⟩) (show w.heap.size ≠ w.heap.size + 1 by omega) (.int .i64 (b + 1))
     have b1 := hB.setCell (p := ⟨w.heap.size + 1, 0, none⟩) (show w.heap.size ≤ w.heap.size + 1 by omega) (.int .i64 (b + 1))
     have u1 := k9.cell 0
     obtain ⟨V1, hV1⟩ : ∃ V, W1.setCell ⟨w.heap.size + 1, 0, none⟩ (.int .i64 (b + 1)) = V := ⟨_, rfl⟩
     rw [hV1] at a1 e1 b1
     clear k9 k8 hB
     have f2 := a1.frozen 1
     have a2 := a1.set 1 (.int .i64 4)
     have e2 := e1.far (a := ⟨w.heap.size + 1, 1, none⟩) (show w.heap.size ≠ w.heap.size + 1 by omega) (.int .i64 4)
     have b2 := b1.setCell (p := ⟨w.heap.size + 1, 1, none⟩) (show w.heap.size ≤ w.heap.size + 1 by omega) (.int .i64 4)
     have u2 := a1.cell 1
     obtain ⟨V2, hV2⟩ : ∃ V, V1.setCell ⟨w.heap.size + 1, 1, none⟩ (.int .i64 4) = V := ⟨_, rfl⟩
     rw [hV2] at a2 e2 b2
     clear a1 e1 b1
     have q0 := a2.cell 0
     have q1 := a2.cell 1
     have q2 := a2.cell 2
     have q3 := a2.cell 3
     have q4 := a2.cell 4
     obtain ⟨z0, z1, z2, z3, z4⟩ := Blk.cells5 e2
     have y0 := e2.frozen 0
     have y1 := e2.frozen 1
     have y2 := e2.frozen 2
     have y3 := e2.frozen 3
     have y4 := e2.frozen 4
     have rE := (((((e2).set 0 (.int .i64 (b + 1))).set 1 (.int .i64 (4))).set 2 (.int .i64 (x))).set 3 (.int .i64 (y))).set 4 (.int .i64 (m))
     obtain ⟨x0, x1, x2, x3, x4⟩ := Blk.cells5 rE
     have hBE := (((((b2).setCell (p := ⟨w.heap.size, 0, none⟩) (Nat.le_refl _) (.int .i64 (b + 1))).setCell (p := ⟨w.heap.size, 1, none⟩) (Nat.le_refl _) (.int .i64 (4))).setCell (p := ⟨w.heap.size, 2, none⟩) (Nat.le_refl _) (.int .i64 (x))).setCell (p := ⟨w.heap.size, 3, none⟩) (Nat.le_refl _) (.int .i64 (y))).setCell (p := ⟨w.heap.size, 4, none⟩) (Nat.le_refl _) (.int .i64 (m))
     clear rE
     go_wp2_with fail
     refine bodyPost_ret (v := .agg #[.int .i64 (b + 1), .int .i64 4, .int .i64 x, .int .i64 y, .int .i64 m]) (by simp [results, Tryz.results30, go_sem, x0, x1, x2, x3, x4]) rfl ⟨by rw [← HF.out], hBE⟩
    ·have t5 : (v == 1) = false := beq_false_of_ne h1
     have HF := Lib.hid (show (⟨b + 1, 1, x, y, m⟩ : Ms) = g by rw [← hg, if_neg c1, if_neg c2, if_pos c3, if_neg (show ¬ (false = true) by decide), if_neg h1])
     clear hg h1
     have hw : IntKind.i64.wrap (b + 1) = b + 1 := by rw [IntKind.wrap_i64]; omega
     have f1 := k9.frozen 0
     have a1 := k9.set 0 (.int .i64 (b + 1))
     have e1 := k8.far (a := ⟨w.heap.size + 1, 0, none⟩) (show w.heap.size ≠ w.heap.size + 1 by omega) (.int .i64 (b + 1))
     have b1 := hB.setCell (p := ⟨w.heap.size + 1, 0, none⟩) (show w.heap.size ≤ w.heap.size + 1 by omega) (.int .i64 (b + 1))
     have u1 := k9.cell 0
     obtain ⟨V1, hV1⟩ : ∃ V, W1.setCell ⟨w.heap.size + 1, 0, none⟩ (.int .i64 (b + 1)) = V := ⟨_, rfl⟩
     rw [hV1] at a1 e1 b1
     clear k9 k8 hB
     have q0 := a1.cell 0
     have q1 := a1.cell 1
     have q2 := a1.cell 2
     have q3 := a1.cell 3
     have q4 := a1.cell 4
     obtain ⟨z0, z1, z2, z3, z4⟩ := Blk.cells5 e1
     have y0 := e1.frozen 0
     have y1 := e1.frozen 1
     have y2 := e1.frozen 2
     have y3 := e1.frozen 3
     have y4 := e1.frozen 4
     have rE := (((((e1).set 0 (.int .i64 (b + 1))).set 1 (.int .i64 (1))).set 2 (.int .i64 (x))).set 3 (.int .i64 (y))).set 4 (.int .i64 (m))
     obtain ⟨x0, x1, x2, x3, x4⟩ := Blk.cells5 rE
     have hBE := (((((b1).setCell (p := ⟨w.heap.size, 0, none⟩) (Nat.le_refl _) (.int .i64 (b + 1))).setCell (p := ⟨w.heap.size, 1, none⟩) (Nat.le_refl _) (.int .i64 (1))).setCell (p := ⟨w.heap.size, 2, none⟩) (Nat.le_refl _) (.int .i64 (x))).setCell (p := ⟨w.heap.size, 3, none⟩) (Nat.le_refl _) (.int .i64 (y))).setCell (p := ⟨w.heap.size, 4, none⟩) (Nat.le_refl _) (.int .i64 (m))
     clear rE
     go_wp2_with fail
     refine bodyPost_ret (v := .agg #[.int .i64 (b + 1), .int .i64 1, .int .i64 x, .int .i64 y, .int .i64 m]) (by simp [results, Tryz.results30, go_sem, x0, x1, x2, x3, x4]) rfl ⟨by rw [← HF.out], hBE⟩
   by_cases h1 : v = 1
   ·have t5 : (v == 1) = true := by rw [h1]; rfl
    have HF := Lib.hid (show (⟨0, 4, x, y, m⟩ : Ms) = g by rw [← hg, if_neg c1, if_neg c2, if_neg c3, if_neg (show ¬ (false = true) by decide), if_pos h1])
    clear hg h1
    have f1 := k9.frozen 1
    have a1 := k9.set 1 (.int .i64 4)
    have e1 := k8.far (a := ⟨w.heap.size + 1, 1, none⟩) (show w.heap.size ≠ w.heap.size + 1 by omega) (.int .i64 4)
    have b1 := hB.setCell (p := ⟨w.heap.size + 1, 1, none⟩) (show w.heap.size ≤ w.heap.size + 1 by omega) (.int .i64 4)
    have u1 := k9.cell 1
    obtain ⟨V1, hV1⟩ : ∃ V, W1.setCell ⟨w.heap.size + 1, 1, none⟩ (.int .i64 4) = V := ⟨_, rfl⟩
    rw [hV1] at a1 e1 b1
    clear k9 k8 hB
    have q0 := a1.cell 0
    have q1 := a1.cell 1
    have q2 := a1.cell 2
    have q3 := a1.cell 3
    have q4 := a1.cell 4
    obtain ⟨z0, z1, z2, z3, z4⟩ := Blk.cells5 e1
    have y0 := e1.frozen 0
    have y1 := e1.frozen 1
    have y2 := e1.frozen 2
    have y3 := e1.frozen 3
    have y4 := e1.frozen 4
    have rE := (((((e1).set 0 (.int .i64 (0))).set 1 (.int .i64 (4))).set 2 (.int .i64 (x))).set 3 (.int .i64 (y))).set 4 (.int .i64 (m))
    obtain ⟨x0, x1, x2, x3, x4⟩ := Blk.cells5 rE
    have hBE := (((((b1).setCell (p := ⟨w.heap.size, 0, none⟩) (Nat.le_refl _) (.int .i64 (0))).setCell (p := ⟨w.heap.size, 1, none⟩) (Nat.le_refl _) (.int .i64 (4))).setCell (p := ⟨w.heap.size, 2, none⟩) (Nat.le_refl _) (.int .i64 (x))).setCell (p := ⟨w.heap.size, 3, none⟩) (Nat.le_refl _) (.int .i64 (y))).setCell (p := ⟨w.heap.size, 4, none⟩) (Nat.le_refl _) (.int .i64 (m))
    clear rE
    go_wp2_with fail
    refine bodyPost_ret (v := .agg #[.int .i64 (0), .int .i64 4, .int .i64 x, .int .i64 y, .int .i64 m]) (by simp [results, Tryz.results30, go_sem, x0, x1, x2, x3, x4]) rfl ⟨by rw [← HF.out], hBE⟩
   ·have t5 : (v == 1) = false := beq_false_of_ne h1
    have HF := Lib.hid (show (⟨0, 1, x, y, m⟩ : Ms) = g by rw [← hg, if_neg c1, if_neg c2, if_neg c3, if_neg (show ¬ (false = true) by decide), if_neg h1])
    clear hg h1
    have q0 := k9.cell 0
    have q1 := k9.cell 1
    have q2 := k9.cell 2
    have q3 := k9.cell 3
    have q4 := k9.cell 4
    obtain ⟨z0, z1, z2, z3, z4⟩ := Blk.cells5 k8
    have y0 := k8.frozen 0
    have y1 := k8.frozen 1
    have y2 := k8.frozen 2
    have y3 := k8.frozen 3
    have y4 := k8.frozen 4
    have rE := (((((k8).set 0 (.int .i64 (0))).set 1 (.int .i64 (1))).set 2 (.int .i64 (x))).set 3 (.int .i64 (y))).set 4 (.int .i64 (m))
    obtain ⟨x0, x1, x2, x3, x4⟩ := Blk.cells5 rE
    have hBE := (((((hB).setCell (p := ⟨w.heap.size, 0, none⟩) (Nat.le_refl _) (.int .i64 (0))).setCell (p := ⟨w.heap.size, 1, none⟩) (Nat.le_refl _) (.int .i64 (1))).setCell (p := ⟨w.heap.size, 2, none⟩) (Nat.le_refl _) (.int .i64 (x))).setCell (p := ⟨w.heap.size, 3, none⟩) (Nat.le_refl _) (.int .i64 (y))).setCell (p := ⟨w.heap.size, 4, none⟩) (Nat.le_refl _) (.int .i64 (m))
    clear rE
    go_wp2_with fail
    refine bodyPost_ret (v := .agg #[.int .i64 (0), .int .i64 1, .int .i64 x, .int .i64 y, .int .i64 m]) (by simp [results, Tryz.results30, go_sem, x0, x1, x2, x3, x4]) rfl ⟨by rw [← HF.out], hBE⟩
end Go.Proofs.YtjlhhelikiegdaaGreatDoor
