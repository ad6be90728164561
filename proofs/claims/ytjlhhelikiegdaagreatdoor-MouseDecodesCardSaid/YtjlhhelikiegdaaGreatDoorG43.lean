/-
  Layer 3, walked: the document's guess: the kinds with parameters.
-/
import Derived.Test.YtjlhhelikiegdaaGreatDoorG22
namespace Go.Proofs.YtjlhhelikiegdaaGreatDoor
open Go.RowKit
set_option maxRecDepth 100000 in
set_option maxHeartbeats 8000000 in
theorem guess_1_e (s : ByteArray) (w : World) (hl : s.size ≤ 4294967296) (h2 : 1 < s.size) (h0 : (s[0]'(by omega)).toNat = 27) (h1 : (s[1]'h2).toNat = 91) (hv : s.size ≤ 2) :
 Calls Tryz.prog 52 #[.string s] w (GuessP s.data.toList w) := by
 have HQ := Lib.hid ((guess_seq s h2 h0 1 h1 (by decide)).trans (seq_e 1 s (by omega)))
 have b1 : ((s[0]'(by omega)).toNat : Int) = 27 := by omega
 have b2 : ((s[1]'h2).toNat : Int) = 91 := by omega
 have v1 : ¬ (2 : Int) < (s.size : Int) := by omega
 have hlen : s.data.toList.length = s.size := by simp
 obtain ⟨n1, hn1⟩ : ∃ n, runL s.data.toList 2 48 59 = n := ⟨_, rfl⟩
 have r1 := run_le s.data.toList 2 48 59 (by omega)
 rw [hn1, hlen] at r1
 have HN1 := Lib.hid hn1
 obtain ⟨m1, hm1⟩ : ∃ m, 2 + n1 = m := ⟨_, rfl⟩
 rw [hm1] at r1
 have E1 := Lib.hid (ext_list s 2 n1 m1 48 59 hn1 hm1)
 have ew1 : IntKind.i64.wrap ((2 : Int) + (n1 : Int)) = (m1 : Int) := by have := IntWalk.i64_in ((2 : Int) + (n1 : Int)) (by omega); rw [this]; omega
 have q1 : (2 : Int) ≤ (m1 : Int) := by omega
 have q2 : (m1 : Int) ≤ (s.size : Int) := by omega
 obtain ⟨n2, hn2⟩ : ∃ n, runL s.data.toList m1 32 47 = n := ⟨_, rfl⟩
 have r2 := run_le s.data.toList m1 32 47 (by omega)
 rw [hn2, hlen] at r2
 have HN2 := Lib.hid hn2
 obtain ⟨m2, hm2⟩ : ∃ m, m1 + n2 = m := ⟨_, rfl⟩
 rw [hm2] at r2
 have E2 := Lib.hid (ext_str s m1 n2 m2 32 47 hn2 hm2)
 have ew2 : IntKind.i64.wrap ((m1 : Int) + (n2 : Int)) = (m2 : Int) := by have := IntWalk.i64_in ((m1 : Int) + (n2 : Int)) (by omega); rw [this]; omega
 have q3 : (m1 : Int) ≤ (m2 : Int) := by omega
 have q4 : (m2 : Int) ≤ (s.size : Int) := by omega
 obtain ⟨ps, hps⟩ : ∃ p, numsL ((s.data.toList.drop 2).takeWhile (btw 48 59)) = p := ⟨_, rfl⟩
 have HPS := Lib.hid hps
 have HM1 := Lib.hid hm1
 have HM2 := Lib.hid hm2
 have HTN := Lib.hid (tail_none 1 0 2 n1 n2 m1 m2 s.data.toList hn1 hm1 hn2 hm2)
 have HTS := Lib.hid (tail_some 1 0 2 n1 n2 m1 m2 s.data.toList hn1 hm1 hn2 hm2 ps hps)
 have hzr : Blk ((w.alloc (.cells #[.int .i64 0, .int .u8 0, .slice none 0 0, .string ⟨#[]⟩, .int .u8 0, .string ⟨#[]⟩] 44)).alloc (.cells #[.int .i64 1, .int .u8 0, .slice none 0 0, .string ⟨#[]⟩, .int .u8 0, .string ⟨#[]⟩] 44)) w.heap.size 44 #[.int .i64 0, .int .u8 0, .slice none 0 0, .string ⟨#[]⟩, .int .u8 0, .string ⟨#[]⟩] := (Blk.new w _ _).alloc _
 have hbx := Blk.new (w.alloc (.cells #[.int .i64 0, .int .u8 0, .slice none 0 0, .string ⟨#[]⟩, .int .u8 0, .string ⟨#[]⟩] 44)) 44 #[.int .i64 1, .int .u8 0, .slice none 0 0, .string ⟨#[]⟩, .int .u8 0, .string ⟨#[]⟩]
 rw [World.size_alloc] at hbx
 have hba : Below w.heap.size w ((w.alloc (.cells #[.int .i64 0, .int .u8 0, .slice none 0 0, .string ⟨#[]⟩, .int .u8 0, .string ⟨#[]⟩] 44)).alloc (.cells #[.int .i64 1, .int .u8 0, .slice none 0 0, .string ⟨#[]⟩, .int .u8 0, .string ⟨#[]⟩] 44)) := ((Below.refl _ w).alloc (Nat.le_refl _) _).alloc (by simp) _
 clear hn1 hm1 hn2 hm2 hps
 go_enter Tryz.func52, Tryz.ntmps52
 go_wp2_with fail
 refine (run_str s 2 48 59 n1 _ hl (by omega) HN1.out).mono ?_
 rintro e w1 ⟨rfl, rfl⟩
 go_wp2_with fail
 refine (nums_box (s.extract 2 m1) _ (w.heap.size + 1) _ hbx (ext_size s _ _ hl) ps (by rw [E1.out]; exact HPS.out)).mono ?_
 rintro e w1 ⟨⟨A1, c1, rfl, hr1⟩, hb⟩
 have hbx1 := hbx.below hb hbx.lt
 have hzr1 := hzr.below hb hzr.lt
 have hbw1 := hba.trans (hb.mono hba.size)
 clear hbx hzr hba hb
 obtain ⟨a0, a1, a2, a3, a4, a5⟩ := Blk.cells6 hbx1
 obtain ⟨d0, d1, d2, d3, d4, d5⟩ := Blk.cells6 hzr1
 have y2 := hbx1.frozen 2
 have y3 := hbx1.frozen 3
 have y4 := hbx1.frozen 4
 have y5 := hbx1.frozen 5
 have z0 := hzr1.frozen 0
 have z1 := hzr1.frozen 1
 have z2 := hzr1.frozen 2
 have z3 := hzr1.frozen 3
 have z4 := hzr1.frozen 4
 have z5 := hzr1.frozen 5
 go_wp2_with fail
 refine (run_str s m1 32 47 n2 _ hl (by omega) HN2.out).mono ?_
 rintro e w2 ⟨rfl, rfl⟩
 have hbw3 : Below w.heap.size w ((w1.setCell ⟨w.heap.size + 1, 2, none⟩ (.slice A1 ps.length c1)).setCell ⟨w.heap.size + 1, 3, none⟩ (.string (s.extract m1 m2))) := (hbw1.setCell (p := ⟨w.heap.size + 1, 2, none⟩) (by simp) _).setCell (p := ⟨w.heap.size + 1, 3, none⟩) (by simp) _
 by_cases hlt : m2 < s.size
 ·exact absurd hlt (by omega)
 ·have k3 : (s.size : Int) ≤ (m2 : Int) := by omega
  have HG := Lib.hid (HQ.out.trans (HTN.out (by omega)))
  go_wp2_with fail
  refine bodyPost_ret (v := .tuple #[.agg #[.int .i64 1, .int .u8 0, .slice A1 ps.length c1, .string (s.extract m1 m2), .int .u8 0, .string ⟨#[]⟩], .int .i64 (-1)]) (by simp [results, Tryz.results52, go_sem, d0, d1, d2, d3, d4, d5]) rfl (gp_no HG.out _ _ _ _ _ _ _ _ rfl (below_set6 hbw3 (Nat.le_refl _) _ _ _ _ _ _))
set_option maxRecDepth 100000 in
set_option maxHeartbeats 8000000 in
theorem guess_1_lo (s : ByteArray) (w : World) (hl : s.size ≤ 4294967296) (h2 : 1 < s.size) (h0 : (s[0]'(by omega)).toNat = 27) (h1 : (s[1]'h2).toNat = 91) (hs : 2 < s.size) (hv : (s[2]'hs).toNat < 60) :
 Calls Tryz.prog 52 #[.string s] w (GuessP s.data.toList w) := by
 have HQ := Lib.hid ((guess_seq s h2 h0 1 h1 (by decide)).trans (seq_no 1 s hs (.inl hv)))
 have b1 : ((s[0]'(by omega)).toNat : Int) = 27 := by omega
 have b2 : ((s[1]'h2).toNat : Int) = 91 := by omega
 have v1 : (2 : Int) < (s.size : Int) := by omega
 have v2 : ¬ (60 : Int) ≤ ((s[2]'hs).toNat : Int) := by omega
 have hlen : s.data.toList.length = s.size := by simp
 obtain ⟨n1, hn1⟩ : ∃ n, runL s.data.toList 2 48 59 = n := ⟨_, rfl⟩
 have r1 := run_le s.data.toList 2 48 59 (by omega)
 rw [hn1, hlen] at r1
 have HN1 := Lib.hid hn1
 obtain ⟨m1, hm1⟩ : ∃ m, 2 + n1 = m := ⟨_, rfl⟩
 rw [hm1] at r1
 have E1 := Lib.hid (ext_list s 2 n1 m1 48 59 hn1 hm1)
 have ew1 : IntKind.i64.wrap ((2 : Int) + (n1 : Int)) = (m1 : Int) := by have := IntWalk.i64_in ((2 : Int) + (n1 : Int)) (by omega); rw [this]; omega
 have q1 : (2 : Int) ≤ (m1 : Int) := by omega
 have q2 : (m1 : Int) ≤ (s.size : Int) := by omega
 obtain ⟨n2, hn2⟩ : ∃ n, runL s.data.toList m1 32 47 = n := ⟨_, rfl⟩
 have r2 := run_le s.data.toList m1 32 47 (by omega)
 rw [hn2, hlen] at r2
 have HN2 := Lib.hid hn2
 obtain ⟨m2, hm2⟩ : ∃ m, m1 + n2 = m := ⟨_, rfl⟩
 rw [hm2] at r2
 have E2 := Lib.hid (ext_str s m1 n2 m2 32 47 hn2 hm2)
 have ew2 : IntKind.i64.wrap ((m1 : Int) + (n2 : Int)) = (m2 : Int) := by have := IntWalk.i64_in ((m1 : Int) + (n2 : Int)) (by omega); rw [this]; omega
 have q3 : (m1 : Int) ≤ (m2 : Int) := by omega
 have q4 : (m2 : Int) ≤ (s.size : Int) := by omega
 obtain ⟨ps, hps⟩ : ∃ p, numsL ((s.data.toList.drop 2).takeWhile (btw 48 59)) = p := ⟨_, rfl⟩
 have HPS := Lib.hid hps
 have HM1 := Lib.hid hm1
 have HM2 := Lib.hid hm2
 have HTN := Lib.hid (tail_none 1 0 2 n1 n2 m1 m2 s.data.toList hn1 hm1 hn2 hm2)
 have HTS := Lib.hid (tail_some 1 0 2 n1 n2 m1 m2 s.data.toList hn1 hm1 hn2 hm2 ps hps)
 have hzr : Blk ((w.alloc (.cells #[.int .i64 0, .int .u8 0, .slice none 0 0, .string ⟨#[]⟩, .int .u8 0, .string ⟨#[]⟩] 44)).alloc (.cells #[.int .i64 1, .int .u8 0, .slice none 0 0, .string ⟨#[]⟩, .int .u8 0, .string ⟨#[]⟩] 44)) w.heap.size 44 #[.int .i64 0, .int .u8 0, .slice none 0 0, .string ⟨#[]⟩, .int .u8 0, .string ⟨#[]⟩] := (Blk.new w _ _).alloc _
 have hbx := Blk.new (w.alloc (.cells #[.int .i64 0, .int .u8 0, .slice none 0 0, .string ⟨#[]⟩, .int .u8 0, .string ⟨#[]⟩] 44)) 44 #[.int .i64 1, .int .u8 0, .slice none 0 0, .string ⟨#[]⟩, .int .u8 0, .string ⟨#[]⟩]
 rw [World.size_alloc] at hbx
 have hba : Below w.heap.size w ((w.alloc (.cells #[.int .i64 0, .int .u8 0, .slice none 0 0, .string ⟨#[]⟩, .int .u8 0, .string ⟨#[]⟩] 44)).alloc (.cells #[.int .i64 1, .int .u8 0, .slice none 0 0, .string ⟨#[]⟩, .int .u8 0, .string ⟨#[]⟩] 44)) := ((Below.refl _ w).alloc (Nat.le_refl _) _).alloc (by simp) _
 clear hn1 hm1 hn2 hm2 hps
 go_enter Tryz.func52, Tryz.ntmps52
 go_wp2_with fail
 refine (run_str s 2 48 59 n1 _ hl (by omega) HN1.out).mono ?_
 rintro e w1 ⟨rfl, rfl⟩
 go_wp2_with fail
 refine (nums_box (s.extract 2 m1) _ (w.heap.size + 1) _ hbx (ext_size s _ _ hl) ps (by rw [E1.out]; exact HPS.out)).mono ?_
 rintro e w1 ⟨⟨A1, c1, rfl, hr1⟩, hb⟩
 have hbx1 := hbx.below hb hbx.lt
 have hzr1 := hzr.below hb hzr.lt
 have hbw1 := hba.trans (hb.mono hba.size)
 clear hbx hzr hba hb
 obtain ⟨a0, a1, a2, a3, a4, a5⟩ := Blk.cells6 hbx1
 obtain ⟨d0, d1, d2, d3, d4, d5⟩ := Blk.cells6 hzr1
 have y2 := hbx1.frozen 2
 have y3 := hbx1.frozen 3
 have y4 := hbx1.frozen 4
 have y5 := hbx1.frozen 5
 have z0 := hzr1.frozen 0
 have z1 := hzr1.frozen 1
 have z2 := hzr1.frozen 2
 have z3 := hzr1.frozen 3
 have z4 := hzr1.frozen 4
 have z5 := hzr1.frozen 5
 go_wp2_with fail
 refine (run_str s m1 32 47 n2 _ hl (by omega) HN2.out).mono ?_
 rintro e w2 ⟨rfl, rfl⟩
 have hbw3 : Below w.heap.size w ((w1.setCell ⟨w.heap.size + 1, 2, none⟩ (.slice A1 ps.length c1)).setCell ⟨w.heap.size + 1, 3, none⟩ (.string (s.extract m1 m2))) := (hbw1.setCell (p := ⟨w.heap.size + 1, 2, none⟩) (by simp) _).setCell (p := ⟨w.heap.size + 1, 3, none⟩) (by simp) _
 by_cases hlt : m2 < s.size
 ·have k3 : (m2 : Int) < (s.size : Int) := by omega
  have k4 : (0 : Int) ≤ (m2 : Int) := by omega
  have HF := Lib.hid (show s[m2]'hlt = s.data.toList.getD m2 0 by rw [byte_at s m2 hlt, getD_at])
  have hr3 := (hr1.grown (grown_setCell (w.heap.size + 1) 2 (.slice A1 ps.length c1) w1)).grown (grown_setCell (w.heap.size + 1) 3 (.string (s.extract m1 m2)) _)
  have hr4 := hr3.grown (grown_setCell (w.heap.size + 1) 4 (.int .u8 ((s[m2]'hlt).toNat : Int)) _)
  have hz4 := ((hzr1.far (a := ⟨w.heap.size + 1, 2, none⟩) (by simp) (.slice A1 ps.length c1)).far (a := ⟨w.heap.size + 1, 3, none⟩) (by simp) (.string (s.extract m1 m2))).far (a := ⟨w.heap.size + 1, 4, none⟩) (by simp) (.int .u8 ((s[m2]'hlt).toNat : Int))
  have hbw4 := hbw3.setCell (p := ⟨w.heap.size + 1, 4, none⟩) (by simp) (.int .u8 ((s[m2]'hlt).toNat : Int))
  clear hr1 hr3 hzr1 hbw1 hbw3
  have HG := Lib.hid (HQ.out.trans (tail_1 HTS.out (by omega) HF.out))
  go_wp2_with fail
  refine bodyPost_ret (v := .tuple #[.agg #[.int .i64 1, .int .u8 0, .slice A1 ps.length c1, .string (s.extract m1 m2), .int .u8 ((s[m2]'hlt).toNat : Int), .string ⟨#[]⟩], .int .i64 ((m2 : Int) + 1)]) (by simp [results, Tryz.results52, go_sem, d0, d1, d2, d3, d4, d5]) rfl (gp_yes HG.out A1 c1 (by rw [E2.out]; rfl) (hr4.other hz4 (by decide) (by decide) (grown_set6 _ w.heap.size _ _ _ _ _ _)) (below_set6 hbw4 (Nat.le_refl _) _ _ _ _ _ _))
 ·have k3 : (s.size : Int) ≤ (m2 : Int) := by omega
  have HG := Lib.hid (HQ.out.trans (HTN.out (by omega)))
  go_wp2_with fail
  refine bodyPost_ret (v := .tuple #[.agg #[.int .i64 1, .int .u8 0, .slice A1 ps.length c1, .string (s.extract m1 m2), .int .u8 0, .string ⟨#[]⟩], .int .i64 (-1)]) (by simp [results, Tryz.results52, go_sem, d0, d1, d2, d3, d4, d5]) rfl (gp_no HG.out _ _ _ _ _ _ _ _ rfl (below_set6 hbw3 (Nat.le_refl _) _ _ _ _ _ _))
set_option maxRecDepth 100000 in
set_option maxHeartbeats 8000000 in
theorem guess_1_hi (s : ByteArray) (w : World) (hl : s.size ≤ 4294967296) (h2 : 1 < s.size) (h0 : (s[0]'(by omega)).toNat = 27) (h1 : (s[1]'h2).toNat = 91) (hs : 2 < s.size) (hv : 63 < (s[2]'hs).toNat) :
 Calls Tryz.prog 52 #[.string s] w (GuessP s.data.toList w) := by
 have HQ := Lib.hid ((guess_seq s h2 h0 1 h1 (by decide)).trans (seq_no 1 s hs (.inr hv)))
 have b1 : ((s[0]'(by omega)).toNat : Int) = 27 := by omega
 have b2 : ((s[1]'h2).toNat : Int) = 91 := by omega
 have v1 : (2 : Int) < (s.size : Int) := by omega
 have v2 : (60 : Int) ≤ ((s[2]'hs).toNat : Int) := by omega
 have v3 : ¬ ((s[2]'hs).toNat : Int) ≤ (63 : Int) := by omega
 have hlen : s.data.toList.length = s.size := by simp
 obtain ⟨n1, hn1⟩ : ∃ n, runL s.data.toList 2 48 59 = n := ⟨_, rfl⟩
 have r1 := run_le s.data.toList 2 48 59 (by omega)
 rw [hn1, hlen] at r1
 have HN1 := Lib.hid hn1
 obtain ⟨m1, hm1⟩ : ∃ m, 2 + n1 = m := ⟨_, rfl⟩
 rw [hm1] at r1
 have E1 := Lib.hid (ext_list s 2 n1 m1 48 59 hn1 hm1)
 have ew1 : IntKind.i64.wrap ((2 : Int) + (n1 : Int)) = (m1 : Int) := by have := IntWalk.i64_in ((2 : Int) + (n1 : Int)) (by omega); rw [this]; omega
 have q1 : (2 : Int) ≤ (m1 : Int) := by omega
 have q2 : (m1 : Int) ≤ (s.size : Int) := by omega
 obtain ⟨n2, hn2⟩ : ∃ n, runL s.data.toList m1 32 47 = n := ⟨_, rfl⟩
 have r2 := run_le s.data.toList m1 32 47 (by omega)
 rw [hn2, hlen] at r2
 have HN2 := Lib.hid hn2
 obtain ⟨m2, hm2⟩ : ∃ m, m1 + n2 = m := ⟨_, rfl⟩
 rw [hm2] at r2
 have E2 := Lib.hid (ext_str s m1 n2 m2 32 47 hn2 hm2)
 have ew2 : IntKind.i64.wrap ((m1 : Int) + (n2 : Int)) = (m2 : Int) := by have := IntWalk.i64_in ((m1 : Int) + (n2 : Int)) (by omega); rw [this]; omega
 have q3 : (m1 : Int) ≤ (m2 : Int) := by omega
 have q4 : (m2 : Int) ≤ (s.size : Int) := by omega
 obtain ⟨ps, hps⟩ : ∃ p, numsL ((s.data.toList.drop 2).takeWhile (btw 48 59)) = p := ⟨_, rfl⟩
 have HPS := Lib.hid hps
 have HM1 := Lib.hid hm1
 have HM2 := Lib.hid hm2
 have HTN := Lib.hid (tail_none 1 0 2 n1 n2 m1 m2 s.data.toList hn1 hm1 hn2 hm2)
 have HTS := Lib.hid (tail_some 1 0 2 n1 n2 m1 m2 s.data.toList hn1 hm1 hn2 hm2 ps hps)
 have hzr : Blk ((w.alloc (.cells #[.int .i64 0, .int .u8 0, .slice none 0 0, .string ⟨#[]⟩, .int .u8 0, .string ⟨#[]⟩] 44)).alloc (.cells #[.int .i64 1, .int .u8 0, .slice none 0 0, .string ⟨#[]⟩, .int .u8 0, .string ⟨#[]⟩] 44)) w.heap.size 44 #[.int .i64 0, .int .u8 0, .slice none 0 0, .string ⟨#[]⟩, .int .u8 0, .string ⟨#[]⟩] := (Blk.new w _ _).alloc _
 have hbx := Blk.new (w.alloc (.cells #[.int .i64 0, .int .u8 0, .slice none 0 0, .string ⟨#[]⟩, .int .u8 0, .string ⟨#[]⟩] 44)) 44 #[.int .i64 1, .int .u8 0, .slice none 0 0, .string ⟨#[]⟩, .int .u8 0, .string ⟨#[]⟩]
 rw [World.size_alloc] at hbx
 have hba : Below w.heap.size w ((w.alloc (.cells #[.int .i64 0, .int .u8 0, .slice none 0 0, .string ⟨#[]⟩, .int .u8 0, .string ⟨#[]⟩] 44)).alloc (.cells #[.int .i64 1, .int .u8 0, .slice none 0 0, .string ⟨#[]⟩, .int .u8 0, .string ⟨#[]⟩] 44)) := ((Below.refl _ w).alloc (Nat.le_refl _) _).alloc (by simp) _
 clear hn1 hm1 hn2 hm2 hps
 go_enter Tryz.func52, Tryz.ntmps52
 go_wp2_with fail
 refine (run_str s 2 48 59 n1 _ hl (by omega) HN1.out).mono ?_
 rintro e w1 ⟨rfl, rfl⟩
 go_wp2_with fail
 refine (nums_box (s.extract 2 m1) _ (w.heap.size + 1) _ hbx (ext_size s _ _ hl) ps (by rw [E1.out]; exact HPS.out)).mono ?_
 rintro e w1 ⟨⟨A1, c1, rfl, hr1⟩, hb⟩
 have hbx1 := hbx.below hb hbx.lt
 have hzr1 := hzr.below hb hzr.lt
 have hbw1 := hba.trans (hb.mono hba.size)
 clear hbx hzr hba hb
 obtain ⟨a0, a1, a2, a3, a4, a5⟩ := Blk.cells6 hbx1
 obtain ⟨d0, d1, d2, d3, d4, d5⟩ := Blk.cells6 hzr1
 have y2 := hbx1.frozen 2
 have y3 := hbx1.frozen 3
 have y4 := hbx1.frozen 4
 have y5 := hbx1.frozen 5
 have z0 := hzr1.frozen 0
 have z1 := hzr1.frozen 1
 have z2 := hzr1.frozen 2
 have z3 := hzr1.frozen 3
 have z4 := hzr1.frozen 4
 have z5 := hzr1.frozen 5
 go_wp2_with fail
 refine (run_str s m1 32 47 n2 _ hl (by omega) HN2.out).mono ?_
 rintro e w2 ⟨rfl, rfl⟩
 have hbw3 : Below w.heap.size w ((w1.setCell ⟨w.heap.size + 1, 2, none⟩ (.slice A1 ps.length c1)).setCell ⟨w.heap.size + 1, 3, none⟩ (.string (s.extract m1 m2))) := (hbw1.setCell (p := ⟨w.heap.size + 1, 2, none⟩) (by simp) _).setCell (p := ⟨w.heap.size + 1, 3, none⟩) (by simp) _
 by_cases hlt : m2 < s.size
 ·have k3 : (m2 : Int) < (s.size : Int) := by omega
  have k4 : (0 : Int) ≤ (m2 : Int) := by omega
  have HF := Lib.hid (show s[m2]'hlt = s.data.toList.getD m2 0 by rw [byte_at s m2 hlt, getD_at])
  have hr3 := (hr1.grown (grown_setCell (w.heap.size + 1) 2 (.slice A1 ps.length c1) w1)).grown (grown_setCell (w.heap.size + 1) 3 (.string (s.extract m1 m2)) _)
  have hr4 := hr3.grown (grown_setCell (w.heap.size + 1) 4 (.int .u8 ((s[m2]'hlt).toNat : Int)) _)
  have hz4 := ((hzr1.far (a := ⟨w.heap.size + 1, 2, none⟩) (by simp) (.slice A1 ps.length c1)).far (a := ⟨w.heap.size + 1, 3, none⟩) (by simp) (.string (s.extract m1 m2))).far (a := ⟨w.heap.size + 1, 4, none⟩) (by simp) (.int .u8 ((s[m2]'hlt).toNat : Int))
  have hbw4 := hbw3.setCell (p := ⟨w.heap.size + 1, 4, none⟩) (by simp) (.int .u8 ((s[m2]'hlt).toNat : Int))
  clear hr1 hr3 hzr1 hbw1 hbw3
  have HG := Lib.hid (HQ.out.trans (tail_1 HTS.out (by omega) HF.out))
  go_wp2_with fail
  refine bodyPost_ret (v := .tuple #[.agg #[.int .i64 1, .int .u8 0, .slice A1 ps.length c1, .string (s.extract m1 m2), .int .u8 ((s[m2]'hlt).toNat : Int), .string ⟨#[]⟩], .int .i64 ((m2 : Int) + 1)]) (by simp [results, Tryz.results52, go_sem, d0, d1, d2, d3, d4, d5]) rfl (gp_yes HG.out A1 c1 (by rw [E2.out]; rfl) (hr4.other hz4 (by decide) (by decide) (grown_set6 _ w.heap.size _ _ _ _ _ _)) (below_set6 hbw4 (Nat.le_refl _) _ _ _ _ _ _))
 ·have k3 : (s.size : Int) ≤ (m2 : Int) := by omega
  have HG := Lib.hid (HQ.out.trans (HTN.out (by omega)))
  go_wp2_with fail
  refine bodyPost_ret (v := .tuple #[.agg #[.int .i64 1, .int .u8 0, .slice A1 ps.length c1, .string (s.extract m1 m2), .int .u8 0, .string ⟨#[]⟩], .int .i64 (-1)]) (by simp [results, Tryz.results52, go_sem, d0, d1, d2, d3, d4, d5]) rfl (gp_no HG.out _ _ _ _ _ _ _ _ rfl (below_set6 hbw3 (Nat.le_refl _) _ _ _ _ _ _))
set_option maxRecDepth 100000 in
set_option maxHeartbeats 8000000 in
theorem guess_1_p (s : ByteArray) (w : World) (hl : s.size ≤ 4294967296) (h2 : 1 < s.size) (h0 : (s[0]'(by omega)).toNat = 27) (h1 : (s[1]'h2).toNat = 91) (hs : 2 < s.size) (hv : 60 ≤ (s[2]'hs).toNat ∧ (s[2]'hs).toNat ≤ 63) :
 Calls Tryz.prog 52 #[.string s] w (GuessP s.data.toList w) := by
 have HQ := Lib.hid ((guess_seq s h2 h0 1 h1 (by decide)).trans (seq_yes 1 s hs hv))
 have b1 : ((s[0]'(by omega)).toNat : Int) = 27 := by omega
 have b2 : ((s[1]'h2).toNat : Int) = 91 := by omega
 have v1 : (2 : Int) < (s.size : Int) := by omega
 have v2 : (60 : Int) ≤ ((s[2]'hs).toNat : Int) := by omega
 have v3 : ((s[2]'hs).toNat : Int) ≤ (63 : Int) := by omega
 have hlen : s.data.toList.length = s.size := by simp
 obtain ⟨n1, hn1⟩ : ∃ n, runL s.data.toList 3 48 59 = n := ⟨_, rfl⟩
 have r1 := run_le s.data.toList 3 48 59 (by omega)
 rw [hn1, hlen] at r1
 have HN1 := Lib.hid hn1
 obtain ⟨m1, hm1⟩ : ∃ m, 3 + n1 = m := ⟨_, rfl⟩
 rw [hm1] at r1
 have E1 := Lib.hid (ext_list s 3 n1 m1 48 59 hn1 hm1)
 have ew1 : IntKind.i64.wrap ((3 : Int) + (n1 : Int)) = (m1 : Int) := by have := IntWalk.i64_in ((3 : Int) + (n1 : Int)) (by omega); rw [this]; omega
 have q1 : (3 : Int) ≤ (m1 : Int) := by omega
 have q2 : (m1 : Int) ≤ (s.size : Int) := by omega
 obtain ⟨n2, hn2⟩ : ∃ n, runL s.data.toList m1 32 47 = n := ⟨_, rfl⟩
 have r2 := run_le s.data.toList m1 32 47 (by omega)
 rw [hn2, hlen] at r2
 have HN2 := Lib.hid hn2
 obtain ⟨m2, hm2⟩ : ∃ m, m1 + n2 = m := ⟨_, rfl⟩
 rw [hm2] at r2
 have E2 := Lib.hid (ext_str s m1 n2 m2 32 47 hn2 hm2)
 have ew2 : IntKind.i64.wrap ((m1 : Int) + (n2 : Int)) = (m2 : Int) := by have := IntWalk.i64_in ((m1 : Int) + (n2 : Int)) (by omega); rw [this]; omega
 have q3 : (m1 : Int) ≤ (m2 : Int) := by omega
 have q4 : (m2 : Int) ≤ (s.size : Int) := by omega
 obtain ⟨ps, hps⟩ : ∃ p, numsL ((s.data.toList.drop 3).takeWhile (btw 48 59)) = p := ⟨_, rfl⟩
 have HPS := Lib.hid hps
 have HM1 := Lib.hid hm1
 have HM2 := Lib.hid hm2
 have HTN := Lib.hid (tail_none 1 (s[2]'hs) 3 n1 n2 m1 m2 s.data.toList hn1 hm1 hn2 hm2)
 have HTS := Lib.hid (tail_some 1 (s[2]'hs) 3 n1 n2 m1 m2 s.data.toList hn1 hm1 hn2 hm2 ps hps)
 have hzr : Blk ((w.alloc (.cells #[.int .i64 0, .int .u8 0, .slice none 0 0, .string ⟨#[]⟩, .int .u8 0, .string ⟨#[]⟩] 44)).alloc (.cells #[.int .i64 1, .int .u8 (((s[2]'hs).toNat : Nat) : Int), .slice none 0 0, .string ⟨#[]⟩, .int .u8 0, .string ⟨#[]⟩] 44)) w.heap.size 44 #[.int .i64 0, .int .u8 0, .slice none 0 0, .string ⟨#[]⟩, .int .u8 0, .string ⟨#[]⟩] := (Blk.new w _ _).alloc _
 have hbx := Blk.new (w.alloc (.cells #[.int .i64 0, .int .u8 0, .slice none 0 0, .string ⟨#[]⟩, .int .u8 0, .string ⟨#[]⟩] 44)) 44 #[.int .i64 1, .int .u8 (((s[2]'hs).toNat : Nat) : Int), .slice none 0 0, .string ⟨#[]⟩, .int .u8 0, .string ⟨#[]⟩]
 rw [World.size_alloc] at hbx
 have hba : Below w.heap.size w ((w.alloc (.cells #[.int .i64 0, .int .u8 0, .slice none 0 0, .string ⟨#[]⟩, .int .u8 0, .string ⟨#[]⟩] 44)).alloc (.cells #[.int .i64 1, .int .u8 (((s[2]'hs).toNat : Nat) : Int), .slice none 0 0, .string ⟨#[]⟩, .int .u8 0, .string ⟨#[]⟩] 44)) := ((Below.refl _ w).alloc (Nat.le_refl _) _).alloc (by simp) _
 clear hn1 hm1 hn2 hm2 hps
 go_enter Tryz.func52, Tryz.ntmps52
 go_wp2_with fail
 refine (run_str s 3 48 59 n1 _ hl (by omega) HN1.out).mono ?_
 rintro e w1 ⟨rfl, rfl⟩
 go_wp2_with fail
 refine (nums_box (s.extract 3 m1) _ (w.heap.size + 1) _ hbx (ext_size s _ _ hl) ps (by rw [E1.out]; exact HPS.out)).mono ?_
 rintro e w1 ⟨⟨A1, c1, rfl, hr1⟩, hb⟩
 have hbx1 := hbx.below hb hbx.lt
 have hzr1 := hzr.below hb hzr.lt
 have hbw1 := hba.trans (hb.mono hba.size)
 clear hbx hzr hba hb
 obtain ⟨a0, a1, a2, a3, a4, a5⟩ := Blk.cells6 hbx1
 obtain ⟨d0, d1, d2, d3, d4, d5⟩ := Blk.cells6 hzr1
 have y2 := hbx1.frozen 2
 have y3 := hbx1.frozen 3
 have y4 := hbx1.frozen 4
 have y5 := hbx1.frozen 5
 have z0 := hzr1.frozen 0
 have z1 := hzr1.frozen 1
 have z2 := hzr1.frozen 2
 have z3 := hzr1.frozen 3
 have z4 := hzr1.frozen 4
 have z5 := hzr1.frozen 5
 go_wp2_with fail
 refine (run_str s m1 32 47 n2 _ hl (by omega) HN2.out).mono ?_
 rintro e w2 ⟨rfl, rfl⟩
 have hbw3 : Below w.heap.size w ((w1.setCell ⟨w.heap.size + 1, 2, none⟩ (.slice A1 ps.length c1)).setCell ⟨w.heap.size + 1, 3, none⟩ (.string (s.extract m1 m2))) := (hbw1.setCell (p := ⟨w.heap.size + 1, 2, none⟩) (by simp) _).setCell (p := ⟨w.heap.size + 1, 3, none⟩) (by simp) _
 by_cases hlt : m2 < s.size
 ·have k3 : (m2 : Int) < (s.size : Int) := by omega
  have k4 : (0 : Int) ≤ (m2 : Int) := by omega
  have HF := Lib.hid (show s[m2]'hlt = s.data.toList.getD m2 0 by rw [byte_at s m2 hlt, getD_at])
  have hr3 := (hr1.grown (grown_setCell (w.heap.size + 1) 2 (.slice A1 ps.length c1) w1)).grown (grown_setCell (w.heap.size + 1) 3 (.string (s.extract m1 m2)) _)
  have hr4 := hr3.grown (grown_setCell (w.heap.size + 1) 4 (.int .u8 ((s[m2]'hlt).toNat : Int)) _)
  have hz4 := ((hzr1.far (a := ⟨w.heap.size + 1, 2, none⟩) (by simp) (.slice A1 ps.length c1)).far (a := ⟨w.heap.size + 1, 3, none⟩) (by simp) (.string (s.extract m1 m2))).far (a := ⟨w.heap.size + 1, 4, none⟩) (by simp) (.int .u8 ((s[m2]'hlt).toNat : Int))
  have hbw4 := hbw3.setCell (p := ⟨w.heap.size + 1, 4, none⟩) (by simp) (.int .u8 ((s[m2]'hlt).toNat : Int))
  clear hr1 hr3 hzr1 hbw1 hbw3
  have HG := Lib.hid (HQ.out.trans (tail_1 HTS.out (by omega) HF.out))
  go_wp2_with fail
  refine bodyPost_ret (v := .tuple #[.agg #[.int .i64 1, .int .u8 (((s[2]'hs).toNat : Nat) : Int), .slice A1 ps.length c1, .string (s.extract m1 m2), .int .u8 ((s[m2]'hlt).toNat : Int), .string ⟨#[]⟩], .int .i64 ((m2 : Int) + 1)]) (by simp [results, Tryz.results52, go_sem, d0, d1, d2, d3, d4, d5]) rfl (gp_yes HG.out A1 c1 (by rw [E2.out]; rfl) (hr4.other hz4 (by decide) (by decide) (grown_set6 _ w.heap.size _ _ _ _ _ _)) (below_set6 hbw4 (Nat.le_refl _) _ _ _ _ _ _))
 ·have k3 : (s.size : Int) ≤ (m2 : Int) := by omega
  have HG := Lib.hid (HQ.out.trans (HTN.out (by omega)))
  go_wp2_with fail
  refine bodyPost_ret (v := .tuple #[.agg #[.int .i64 1, .int .u8 (((s[2]'hs).toNat : Nat) : Int), .slice A1 ps.length c1, .string (s.extract m1 m2), .int .u8 0, .string ⟨#[]⟩], .int .i64 (-1)]) (by simp [results, Tryz.results52, go_sem, d0, d1, d2, d3, d4, d5]) rfl (gp_no HG.out _ _ _ _ _ _ _ _ rfl (below_set6 hbw3 (Nat.le_refl _) _ _ _ _ _ _))
set_option maxRecDepth 100000 in
set_option maxHeartbeats 8000000 in
theorem guess_3_e (s : ByteArray) (w : World) (hl : s.size ≤ 4294967296) (h2 : 1 < s.size) (h0 : (s[0]'(by omega)).toNat = 27) (h1 : (s[1]'h2).toNat = 80) (hv : s.size ≤ 2) :
 Calls Tryz.prog 52 #[.string s] w (GuessP s.data.toList w) := by
 have HQ := Lib.hid ((guess_seq s h2 h0 3 h1 (by decide)).trans (seq_e 3 s (by omega)))
 have b1 : ((s[0]'(by omega)).toNat : Int) = 27 := by omega
 have b2 : ((s[1]'h2).toNat : Int) = 80 := by omega
 have v1 : ¬ (2 : Int) < (s.size : Int) := by omega
 have hlen : s.data.toList.length = s.size := by simp
 obtain ⟨n1, hn1⟩ : ∃ n, runL s.data.toList 2 48 59 = n := ⟨_, rfl⟩
 have r1 := run_le s.data.toList 2 48 59 (by omega)
 rw [hn1, hlen] at r1
 have HN1 := Lib.hid hn1
 obtain ⟨m1, hm1⟩ : ∃ m, 2 + n1 = m := ⟨_, rfl⟩
 rw [hm1] at r1
 have E1 := Lib.hid (ext_list s 2 n1 m1 48 59 hn1 hm1)
 have ew1 : IntKind.i64.wrap ((2 : Int) + (n1 : Int)) = (m1 : Int) := by have := IntWalk.i64_in ((2 : Int) + (n1 : Int)) (by omega); rw [this]; omega
 have q1 : (2 : Int) ≤ (m1 : Int) := by omega
 have q2 : (m1 : Int) ≤ (s.size : Int) := by omega
 obtain ⟨n2, hn2⟩ : ∃ n, runL s.data.toList m1 32 47 = n := ⟨_, rfl⟩
 have r2 := run_le s.data.toList m1 32 47 (by omega)
 rw [hn2, hlen] at r2
 have HN2 := Lib.hid hn2
 obtain ⟨m2, hm2⟩ : ∃ m, m1 + n2 = m := ⟨_, rfl⟩
 rw [hm2] at r2
 have E2 := Lib.hid (ext_str s m1 n2 m2 32 47 hn2 hm2)
 have ew2 : IntKind.i64.wrap ((m1 : Int) + (n2 : Int)) = (m2 : Int) := by have := IntWalk.i64_in ((m1 : Int) + (n2 : Int)) (by omega); rw [this]; omega
 have q3 : (m1 : Int) ≤ (m2 : Int) := by omega
 have q4 : (m2 : Int) ≤ (s.size : Int) := by omega
 obtain ⟨ps, hps⟩ : ∃ p, numsL ((s.data.toList.drop 2).takeWhile (btw 48 59)) = p := ⟨_, rfl⟩
 have HPS := Lib.hid hps
 have HM1 := Lib.hid hm1
 have HM2 := Lib.hid hm2
 have HTN := Lib.hid (tail_none 3 0 2 n1 n2 m1 m2 s.data.toList hn1 hm1 hn2 hm2)
 have HTS := Lib.hid (tail_some 3 0 2 n1 n2 m1 m2 s.data.toList hn1 hm1 hn2 hm2 ps hps)
 have hzr : Blk ((w.alloc (.cells #[.int .i64 0, .int .u8 0, .slice none 0 0, .string ⟨#[]⟩, .int .u8 0, .string ⟨#[]⟩] 44)).alloc (.cells #[.int .i64 3, .int .u8 0, .slice none 0 0, .string ⟨#[]⟩, .int .u8 0, .string ⟨#[]⟩] 44)) w.heap.size 44 #[.int .i64 0, .int .u8 0, .slice none 0 0, .string ⟨#[]⟩, .int .u8 0, .string ⟨#[]⟩] := (Blk.new w _ _).alloc _
 have hbx := Blk.new (w.alloc (.cells #[.int .i64 0, .int .u8 0, .slice none 0 0, .string ⟨#[]⟩, .int .u8 0, .string ⟨#[]⟩] 44)) 44 #[.int .i64 3, .int .u8 0, .slice none 0 0, .string ⟨#[]⟩, .int .u8 0, .string ⟨#[]⟩]
 rw [World.size_alloc] at hbx
 have hba : Below w.heap.size w ((w.alloc (.cells #[.int .i64 0, .int .u8 0, .slice none 0 0, .string ⟨#[]⟩, .int .u8 0, .string ⟨#[]⟩] 44)).alloc (.cells #[.int .i64 3, .int .u8 0, .slice none 0 0, .string ⟨#[]⟩, .int .u8 0, .string ⟨#[]⟩] 44)) := ((Below.refl _ w).alloc (Nat.le_refl _) _).alloc (by simp) _
 clear hn1 hm1 hn2 hm2 hps
 go_enter Tryz.func52, Tryz.ntmps52
 go_wp2_with fail
 refine (run_str s 2 48 59 n1 _ hl (by omega) HN1.out).mono ?_
 rintro e w1 ⟨rfl, rfl⟩
 go_wp2_with fail
 refine (nums_box (s.extract 2 m1) _ (w.heap.size + 1) _ hbx (ext_size s _ _ hl) ps (by rw [E1.out]; exact HPS.out)).mono ?_
 rintro e w1 ⟨⟨A1, c1, rfl, hr1⟩, hb⟩
 have hbx1 := hbx.below hb hbx.lt
 have hzr1 := hzr.below hb hzr.lt
 have hbw1 := hba.trans (hb.mono hba.size)
 clear hbx hzr hba hb
 obtain ⟨a0, a1, a2, a3, a4, a5⟩ := Blk.cells6 hbx1
 obtain ⟨d0, d1, d2, d3, d4, d5⟩ := Blk.cells6 hzr1
 have y2 := hbx1.frozen 2
 have y3 := hbx1.frozen 3
 have y4 := hbx1.frozen 4
 have y5 := hbx1.frozen 5
 have z0 := hzr1.frozen 0
 have z1 := hzr1.frozen 1
 have z2 := hzr1.frozen 2
 have z3 := hzr1.frozen 3
 have z4 := hzr1.frozen 4
 have z5 := hzr1.frozen 5
 go_wp2_with fail
 refine (run_str s m1 32 47 n2 _ hl (by omega) HN2.out).mono ?_
 rintro e w2 ⟨rfl, rfl⟩
 have hbw3 : Below w.heap.size w ((w1.setCell ⟨w.heap.size + 1, 2, none⟩ (.slice A1 ps.length c1)).setCell ⟨w.heap.size + 1, 3, none⟩ (.string (s.extract m1 m2))) := (hbw1.setCell (p := ⟨w.heap.size + 1, 2, none⟩) (by simp) _).setCell (p := ⟨w.heap.size + 1, 3, none⟩) (by simp) _
 by_cases hlt : m2 < s.size
 ·exact absurd hlt (by omega)
 ·have k3 : (s.size : Int) ≤ (m2 : Int) := by omega
  have HG := Lib.hid (HQ.out.trans (HTN.out (by omega)))
  go_wp2_with fail
  refine bodyPost_ret (v := .tuple #[.agg #[.int .i64 3, .int .u8 0, .slice A1 ps.length c1, .string (s.extract m1 m2), .int .u8 0, .string ⟨#[]⟩], .int .i64 (-1)]) (by simp [results, Tryz.results52, go_sem, d0, d1, d2, d3, d4, d5]) rfl (gp_no HG.out _ _ _ _ _ _ _ _ rfl (below_set6 hbw3 (Nat.le_refl _) _ _ _ _ _ _))
set_option maxRecDepth 100000 in
set_option maxHeartbeats 8000000 in
theorem guess_3_lo (s : ByteArray) (w : World) (hl : s.size ≤ 4294967296) (h2 : 1 < s.size) (h0 : (s[0]'(by omega)).toNat = 27) (h1 : (s[1]'h2).toNat = 80) (hs : 2 < s.size) (hv : (s[2]'hs).toNat < 60) :
 Calls Tryz.prog 52 #[.string s] w (GuessP s.data.toList w) := by
 have HQ := Lib.hid ((guess_seq s h2 h0 3 h1 (by decide)).trans (seq_no 3 s hs (.inl hv)))
 have b1 : ((s[0]'(by omega)).toNat : Int) = 27 := by omega
 have b2 : ((s[1]'h2).toNat : Int) = 80 := by omega
 have v1 : (2 : Int) < (s.size : Int) := by omega
 have v2 : ¬ (60 : Int) ≤ ((s[2]'hs).toNat : Int) := by omega
 have hlen : s.data.toList.length = s.size := by simp
 obtain ⟨n1, hn1⟩ : ∃ n, runL s.data.toList 2 48 59 = n := ⟨_, rfl⟩
 have r1 := run_le s.data.toList 2 48 59 (by omega)
 rw [hn1, hlen] at r1
 have HN1 := Lib.hid hn1
 obtain ⟨m1, hm1⟩ : ∃ m, 2 + n1 = m := ⟨_, rfl⟩
 rw [hm1] at r1
 have E1 := Lib.hid (ext_list s 2 n1 m1 48 59 hn1 hm1)
 have ew1 : IntKind.i64.wrap ((2 : Int) + (n1 : Int)) = (m1 : Int) := by have := IntWalk.i64_in ((2 : Int) + (n1 : Int)) (by omega); rw [this]; omega
 have q1 : (2 : Int) ≤ (m1 : Int) := by omega
 have q2 : (m1 : Int) ≤ (s.size : Int) := by omega
 obtain ⟨n2, hn2⟩ : ∃ n, runL s.data.toList m1 32 47 = n := ⟨_, rfl⟩
 have r2 := run_le s.data.toList m1 32 47 (by omega)
 rw [hn2, hlen] at r2
 have HN2 := Lib.hid hn2
 obtain ⟨m2, hm2⟩ : ∃ m, m1 + n2 = m := ⟨_, rfl⟩
 rw [hm2] at r2
 have E2 := Lib.hid (ext_str s m1 n2 m2 32 47 hn2 hm2)
 have ew2 : IntKind.i64.wrap ((m1 : Int) + (n2 : Int)) = (m2 : Int) := by have := IntWalk.i64_in ((m1 : Int) + (n2 : Int)) (by omega); rw [this]; omega
 have q3 : (m1 : Int) ≤ (m2 : Int) := by omega
 have q4 : (m2 : Int) ≤ (s.size : Int) := by omega
 obtain ⟨ps, hps⟩ : ∃ p, numsL ((s.data.toList.drop 2).takeWhile (btw 48 59)) = p := ⟨_, rfl⟩
 have HPS := Lib.hid hps
 have HM1 := Lib.hid hm1
 have HM2 := Lib.hid hm2
 have HTN := Lib.hid (tail_none 3 0 2 n1 n2 m1 m2 s.data.toList hn1 hm1 hn2 hm2)
 have HTS := Lib.hid (tail_some 3 0 2 n1 n2 m1 m2 s.data.toList hn1 hm1 hn2 hm2 ps hps)
 have hzr : Blk ((w.alloc (.cells #[.int .i64 0, .int .u8 0, .slice none 0 0, .string ⟨#[]⟩, .int .u8 0, .string ⟨#[]⟩] 44)).alloc (.cells #[.int .i64 3, .int .u8 0, .slice none 0 0, .string ⟨#[]⟩, .int .u8 0, .string ⟨#[]⟩] 44)) w.heap.size 44 #[.int .i64 0, .int .u8 0, .slice none 0 0, .string ⟨#[]⟩, .int .u8 0, .string ⟨#[]⟩] := (Blk.new w _ _).alloc _
 have hbx := Blk.new (w.alloc (.cells #[.int .i64 0, .int .u8 0, .slice none 0 0, .string ⟨#[]⟩, .int .u8 0, .string ⟨#[]⟩] 44)) 44 #[.int .i64 3, .int .u8 0, .slice none 0 0, .string ⟨#[]⟩, .int .u8 0, .string ⟨#[]⟩]
 rw [World.size_alloc] at hbx
 have hba : Below w.heap.size w ((w.alloc (.cells #[.int .i64 0, .int .u8 0, .slice none 0 0, .string ⟨#[]⟩, .int .u8 0, .string ⟨#[]⟩] 44)).alloc (.cells #[.int .i64 3, .int .u8 0, .slice none 0 0, .string ⟨#[]⟩, .int .u8 0, .string ⟨#[]⟩] 44)) := ((Below.refl _ w).alloc (Nat.le_refl _) _).alloc (by simp) _
 clear hn1 hm1 hn2 hm2 hps
 go_enter Tryz.func52, Tryz.ntmps52
 go_wp2_with fail
 refine (run_str s 2 48 59 n1 _ hl (by omega) HN1.out).mono ?_
 rintro e w1 ⟨rfl, rfl⟩
 go_wp2_with fail
 refine (nums_box (s.extract 2 m1) _ (w.heap.size + 1) _ hbx (ext_size s _ _ hl) ps (by rw [E1.out]; exact HPS.out)).mono ?_
 rintro e w1 ⟨⟨A1, c1, rfl, hr1⟩, hb⟩
 have hbx1 := hbx.below hb hbx.lt
 have hzr1 := hzr.below hb hzr.lt
 have hbw1 := hba.trans (hb.mono hba.size)
 clear hbx hzr hba hb
 obtain ⟨a0, a1, a2, a3, a4, a5⟩ := Blk.cells6 hbx1
 obtain ⟨d0, d1, d2, d3, d4, d5⟩ := Blk.cells6 hzr1
 have y2 := hbx1.frozen 2
 have y3 := hbx1.frozen 3
 have y4 := hbx1.frozen 4
 have y5 := hbx1.frozen 5
 have z0 := hzr1.frozen 0
 have z1 := hzr1.frozen 1
 have z2 := hzr1.frozen 2
 have z3 := hzr1.frozen 3
 have z4 := hzr1.frozen 4
 have z5 := hzr1.frozen 5
 go_wp2_with fail
 refine (run_str s m1 32 47 n2 _ hl (by omega) HN2.out).mono ?_
 rintro e w2 ⟨rfl, rfl⟩
 have hbw3 : Below w.heap.size w ((w1.setCell ⟨w.heap.size + 1, 2, none⟩ (.slice A1 ps.length c1)).setCell ⟨w.heap.size + 1, 3, none⟩ (.string (s.extract m1 m2))) := (hbw1.setCell (p := ⟨w.heap.size + 1, 2, none⟩) (by simp) _).setCell (p := ⟨w.heap.size + 1, 3, none⟩) (by simp) _
 by_cases hlt : m2 < s.size
 ·have k3 : (m2 : Int) < (s.size : Int) := by omega
  have k4 : (0 : Int) ≤ (m2 : Int) := by omega
  have HF := Lib.hid (show s[m2]'hlt = s.data.toList.getD m2 0 by rw [byte_at s m2 hlt, getD_at])
  have hr3 := (hr1.grown (grown_setCell (w.heap.size + 1) 2 (.slice A1 ps.length c1) w1)).grown (grown_setCell (w.heap.size + 1) 3 (.string (s.extract m1 m2)) _)
  have hr4 := hr3.grown (grown_setCell (w.heap.size + 1) 4 (.int .u8 ((s[m2]'hlt).toNat : Int)) _)
  have hz4 := ((hzr1.far (a := ⟨w.heap.size + 1, 2, none⟩) (by simp) (.slice A1 ps.length c1)).far (a := ⟨w.heap.size + 1, 3, none⟩) (by simp) (.string (s.extract m1 m2))).far (a := ⟨w.heap.size + 1, 4, none⟩) (by simp) (.int .u8 ((s[m2]'hlt).toNat : Int))
  have hbw4 := hbw3.setCell (p := ⟨w.heap.size + 1, 4, none⟩) (by simp) (.int .u8 ((s[m2]'hlt).toNat : Int))
  clear hr1 hr3 hzr1 hbw1 hbw3
  obtain ⟨m3, hm3⟩ : ∃ m, m2 + 1 = m := ⟨_, rfl⟩
  obtain ⟨n3, hn3⟩ : ∃ n, runL s.data.toList m3 32 126 = n := ⟨_, rfl⟩
  have r3 := run_le s.data.toList m3 32 126 (by omega)
  rw [hn3, hlen] at r3
  have HN3 := Lib.hid hn3
  obtain ⟨m4, hm4⟩ : ∃ m, m3 + n3 = m := ⟨_, rfl⟩
  rw [hm4] at r3
  have E3 := Lib.hid (ext_str s m3 n3 m4 32 126 hn3 hm4)
  have ew3 : IntKind.i64.wrap ((m2 : Int) + 1) = (m3 : Int) := by have := IntWalk.i64_in ((m2 : Int) + 1) (by omega); rw [this]; omega
  have ew4 : IntKind.i64.wrap ((m3 : Int) + (n3 : Int)) = (m4 : Int) := by have := IntWalk.i64_in ((m3 : Int) + (n3 : Int)) (by omega); rw [this]; omega
  have q5 : (m3 : Int) ≤ (m4 : Int) := by omega
  have q6 : (m4 : Int) ≤ (s.size : Int) := by omega
  have HG := Lib.hid (HQ.out.trans (tail_3 HTS.out (by omega) HF.out hm3 hn3 hm4))
  have hr5 := hr4.grown (grown_setCell (w.heap.size + 1) 5 (.string (s.extract m3 m4)) _)
  have hz5 := hz4.far (a := ⟨w.heap.size + 1, 5, none⟩) (by simp) (.string (s.extract m3 m4))
  have hbw5 := hbw4.setCell (p := ⟨w.heap.size + 1, 5, none⟩) (by simp) (.string (s.extract m3 m4))
  clear hr4 hz4 hbw4 hm3 hn3 hm4
  go_wp2_with fail
  refine (run_str s m3 32 126 n3 _ hl (by omega) HN3.out).mono ?_
  rintro e w2 ⟨rfl, rfl⟩
  go_wp2_with fail
  refine bodyPost_ret (v := .tuple #[.agg #[.int .i64 3, .int .u8 0, .slice A1 ps.length c1, .string (s.extract m1 m2), .int .u8 ((s[m2]'hlt).toNat : Int), .string (s.extract m3 m4)], .int .i64 ((m4 : Int) + 2)]) (by simp [results, Tryz.results52, go_sem, d0, d1, d2, d3, d4, d5]) rfl (gp_yes HG.out A1 c1 (by rw [E2.out, E3.out]; rfl) (hr5.other hz5 (by decide) (by decide) (grown_set6 _ w.heap.size _ _ _ _ _ _)) (below_set6 hbw5 (Nat.le_refl _) _ _ _ _ _ _))
 ·have k3 : (s.size : Int) ≤ (m2 : Int) := by omega
  have HG := Lib.hid (HQ.out.trans (HTN.out (by omega)))
  go_wp2_with fail
  refine bodyPost_ret (v := .tuple #[.agg #[.int .i64 3, .int .u8 0, .slice A1 ps.length c1, .string (s.extract m1 m2), .int .u8 0, .string ⟨#[]⟩], .int .i64 (-1)]) (by simp [results, Tryz.results52, go_sem, d0, d1, d2, d3, d4, d5]) rfl (gp_no HG.out _ _ _ _ _ _ _ _ rfl (below_set6 hbw3 (Nat.le_refl _) _ _ _ _ _ _))
set_option maxRecDepth 100000 in
set_option maxHeartbeats 8000000 in
theorem guess_3_hi (s : ByteArray) (w : World) (hl : s.size ≤ 4294967296) (h2 : 1 < s.size) (h0 : (s[0]'(by omega)).toNat = 27) (h1 : (s[1]'h2).toNat = 80) (hs : 2 < s.size) (hv : 63 < (s[2]'hs).toNat) :
 Calls Tryz.prog 52 #[.string s] w (GuessP s.data.toList w) := by
 have HQ := Lib.hid ((guess_seq s h2 h0 3 h1 (by decide)).trans (seq_no 3 s hs (.inr hv)))
 have b1 : ((s[0]'(by omega)).toNat : Int) = 27 := by omega
 have b2 : ((s[1]'h2).toNat : Int) = 80 := by omega
 have v1 : (2 : Int) < (s.size : Int) := by omega
 have v2 : (60 : Int) ≤ ((s[2]'hs).toNat : Int) := by omega
 have v3 : ¬ ((s[2]'hs).toNat : Int) ≤ (63 : Int) := by omega
 have hlen : s.data.toList.length = s.size := by simp
 obtain ⟨n1, hn1⟩ : ∃ n, runL s.data.toList 2 48 59 = n := ⟨_, rfl⟩
 have r1 := run_le s.data.toList 2 48 59 (by omega)
 rw [hn1, hlen] at r1
 have HN1 := Lib.hid hn1
 obtain ⟨m1, hm1⟩ : ∃ m, 2 + n1 = m := ⟨_, rfl⟩
 rw [hm1] at r1
 have E1 := Lib.hid (ext_list s 2 n1 m1 48 59 hn1 hm1)
 have ew1 : IntKind.i64.wrap ((2 : Int) + (n1 : Int)) = (m1 : Int) := by have := IntWalk.i64_in ((2 : Int) + (n1 : Int)) (by omega); rw [this]; omega
 have q1 : (2 : Int) ≤ (m1 : Int) := by omega
 have q2 : (m1 : Int) ≤ (s.size : Int) := by omega
 obtain ⟨n2, hn2⟩ : ∃ n, runL s.data.toList m1 32 47 = n := ⟨_, rfl⟩
 have r2 := run_le s.data.toList m1 32 47 (by omega)
 rw [hn2, hlen] at r2
 have HN2 := Lib.hid hn2
 obtain ⟨m2, hm2⟩ : ∃ m, m1 + n2 = m := ⟨_, rfl⟩
 rw [hm2] at r2
 have E2 := Lib.hid (ext_str s m1 n2 m2 32 47 hn2 hm2)
 have ew2 : IntKind.i64.wrap ((m1 : Int) + (n2 : Int)) = (m2 : Int) := by have := IntWalk.i64_in ((m1 : Int) + (n2 : Int)) (by omega); rw [this]; omega
 have q3 : (m1 : Int) ≤ (m2 : Int) := by omega
 have q4 : (m2 : Int) ≤ (s.size : Int) := by omega
 obtain ⟨ps, hps⟩ : ∃ p, numsL ((s.data.toList.drop 2).takeWhile (btw 48 59)) = p := ⟨_, rfl⟩
 have HPS := Lib.hid hps
 have HM1 := Lib.hid hm1
 have HM2 := Lib.hid hm2
 have HTN := Lib.hid (tail_none 3 0 2 n1 n2 m1 m2 s.data.toList hn1 hm1 hn2 hm2)
 have HTS := Lib.hid (tail_some 3 0 2 n1 n2 m1 m2 s.data.toList hn1 hm1 hn2 hm2 ps hps)
 have hzr : Blk ((w.alloc (.cells #[.int .i64 0, .int .u8 0, .slice none 0 0, .string ⟨#[]⟩, .int .u8 0, .string ⟨#[]⟩] 44)).alloc (.cells #[.int .i64 3, .int .u8 0, .slice none 0 0, .string ⟨#[]⟩, .int .u8 0, .string ⟨#[]⟩] 44)) w.heap.size 44 #[.int .i64 0, .int .u8 0, .slice none 0 0, .string ⟨#[]⟩, .int .u8 0, .string ⟨#[]⟩] := (Blk.new w _ _).alloc _
 have hbx := Blk.new (w.alloc (.cells #[.int .i64 0, .int .u8 0, .slice none 0 0, .string ⟨#[]⟩, .int .u8 0, .string ⟨#[]⟩] 44)) 44 #[.int .i64 3, .int .u8 0, .slice none 0 0, .string ⟨#[]⟩, .int .u8 0, .string ⟨#[]⟩]
 rw [World.size_alloc] at hbx
 have hba : Below w.heap.size w ((w.alloc (.cells #[.int .i64 0, .int .u8 0, .slice none 0 0, .string ⟨#[]⟩, .int .u8 0, .string ⟨#[]⟩] 44)).alloc (.cells #[.int .i64 3, .int .u8 0, .slice none 0 0, .string ⟨#[]⟩, .int .u8 0, .string ⟨#[]⟩] 44)) := ((Below.refl _ w).alloc (Nat.le_refl _) _).alloc (by simp) _
 clear hn1 hm1 hn2 hm2 hps
 go_enter Tryz.func52, Tryz.ntmps52
 go_wp2_with fail
 refine (run_str s 2 48 59 n1 _ hl (by omega) HN1.out).mono ?_
 rintro e w1 ⟨rfl, rfl⟩
 go_wp2_with fail
 refine (nums_box (s.extract 2 m1) _ (w.heap.size + 1) _ hbx (ext_size s _ _ hl) ps (by rw [E1.out]; exact HPS.out)).mono ?_
 rintro e w1 ⟨⟨A1, c1, rfl, hr1⟩, hb⟩
 have hbx1 := hbx.below hb hbx.lt
 have hzr1 := hzr.below hb hzr.lt
 have hbw1 := hba.trans (hb.mono hba.size)
 clear hbx hzr hba hb
 obtain ⟨a0, a1, a2, a3, a4, a5⟩ := Blk.cells6 hbx1
 obtain ⟨d0, d1, d2, d3, d4, d5⟩ := Blk.cells6 hzr1
 have y2 := hbx1.frozen 2
 have y3 := hbx1.frozen 3
 have y4 := hbx1.frozen 4
 have y5 := hbx1.frozen 5
 have z0 := hzr1.frozen 0
 have z1 := hzr1.frozen 1
 have z2 := hzr1.frozen 2
 have z3 := hzr1.frozen 3
 have z4 := hzr1.frozen 4
 have z5 := hzr1.frozen 5
 go_wp2_with fail
 refine (run_str s m1 32 47 n2 _ hl (by omega) HN2.out).mono ?_
 rintro e w2 ⟨rfl, rfl⟩
 have hbw3 : Below w.heap.size w ((w1.setCell ⟨w.heap.size + 1, 2, none⟩ (.slice A1 ps.length c1)).setCell ⟨w.heap.size + 1, 3, none⟩ (.string (s.extract m1 m2))) := (hbw1.setCell (p := ⟨w.heap.size + 1, 2, none⟩) (by simp) _).setCell (p := ⟨w.heap.size + 1, 3, none⟩) (by simp) _
 by_cases hlt : m2 < s.size
 ·have k3 : (m2 : Int) < (s.size : Int) := by omega
  have k4 : (0 : Int) ≤ (m2 : Int) := by omega
  have HF := Lib.hid (show s[m2]'hlt = s.data.toList.getD m2 0 by rw [byte_at s m2 hlt, getD_at])
  have hr3 := (hr1.grown (grown_setCell (w.heap.size + 1) 2 (.slice A1 ps.length c1) w1)).grown (grown_setCell (w.heap.size + 1) 3 (.string (s.extract m1 m2)) _)
  have hr4 := hr3.grown (grown_setCell (w.heap.size + 1) 4 (.int .u8 ((s[m2]'hlt).toNat : Int)) _)
  have hz4 := ((hzr1.far (a := ⟨w.heap.size + 1, 2, none⟩) (by simp) (.slice A1 ps.length c1)).far (a := ⟨w.heap.size + 1, 3, none⟩) (by simp) (.string (s.extract m1 m2))).far (a := ⟨w.heap.size + 1, 4, none⟩) (by simp) (.int .u8 ((s[m2]'hlt).toNat : Int))
  have hbw4 := hbw3.setCell (p := ⟨w.heap.size + 1, 4, none⟩) (by simp) (.int .u8 ((s[m2]'hlt).toNat : Int))
  clear hr1 hr3 hzr1 hbw1 hbw3
  obtain ⟨m3, hm3⟩ : ∃ m, m2 + 1 = m := ⟨_, rfl⟩
  obtain ⟨n3, hn3⟩ : ∃ n, runL s.data.toList m3 32 126 = n := ⟨_, rfl⟩
  have r3 := run_le s.data.toList m3 32 126 (by omega)
  rw [hn3, hlen] at r3
  have HN3 := Lib.hid hn3
  obtain ⟨m4, hm4⟩ : ∃ m, m3 + n3 = m := ⟨_, rfl⟩
  rw [hm4] at r3
  have E3 := Lib.hid (ext_str s m3 n3 m4 32 126 hn3 hm4)
  have ew3 : IntKind.i64.wrap ((m2 : Int) + 1) = (m3 : Int) := by have := IntWalk.i64_in ((m2 : Int) + 1) (by omega); rw [this]; omega
  have ew4 : IntKind.i64.wrap ((m3 : Int) + (n3 : Int)) = (m4 : Int) := by have := IntWalk.i64_in ((m3 : Int) + (n3 : Int)) (by omega); rw [this]; omega
  have q5 : (m3 : Int) ≤ (m4 : Int) := by omega
  have q6 : (m4 : Int) ≤ (s.size : Int) := by omega
  have HG := Lib.hid (HQ.out.trans (tail_3 HTS.out (by omega) HF.out hm3 hn3 hm4))
  have hr5 := hr4.grown (grown_setCell (w.heap.size + 1) 5 (.string (s.extract m3 m4)) _)
  have hz5 := hz4.far (a := ⟨w.heap.size + 1, 5, none⟩) (by simp) (.string (s.extract m3 m4))
  have hbw5 := hbw4.setCell (p := ⟨w.heap.size + 1, 5, none⟩) (by simp) (.string (s.extract m3 m4))
  clear hr4 hz4 hbw4 hm3 hn3 hm4
  go_wp2_with fail
  refine (run_str s m3 32 126 n3 _ hl (by omega) HN3.out).mono ?_
  rintro e w2 ⟨rfl, rfl⟩
  go_wp2_with fail
  refine bodyPost_ret (v := .tuple #[.agg #[.int .i64 3, .int .u8 0, .slice A1 ps.length c1, .string (s.extract m1 m2), .int .u8 ((s[m2]'hlt).toNat : Int), .string (s.extract m3 m4)], .int .i64 ((m4 : Int) + 2)]) (by simp [results, Tryz.results52, go_sem, d0, d1, d2, d3, d4, d5]) rfl (gp_yes HG.out A1 c1 (by rw [E2.out, E3.out]; rfl) (hr5.other hz5 (by decide) (by decide) (grown_set6 _ w.heap.size _ _ _ _ _ _)) (below_set6 hbw5 (Nat.le_refl _) _ _ _ _ _ _))
 ·have k3 : (s.size : Int) ≤ (m2 : Int) := by omega
  have HG := Lib.hid (HQ.out.trans (HTN.out (by omega)))
  go_wp2_with fail
  refine bodyPost_ret (v := .tuple #[.agg #[.int .i64 3, .int .u8 0, .slice A1 ps.length c1, .string (s.extract m1 m2), .int .u8 0, .string ⟨#[]⟩], .int .i64 (-1)]) (by simp [results, Tryz.results52, go_sem, d0, d1, d2, d3, d4, d5]) rfl (gp_no HG.out _ _ _ _ _ _ _ _ rfl (below_set6 hbw3 (Nat.le_refl _) _ _ _ _ _ _))
set_option maxRecDepth 100000 in
set_option maxHeartbeats 8000000 in
theorem guess_3_p (s : ByteArray) (w : World) (hl : s.size ≤ 4294967296) (h2 : 1 < s.size) (h0 : (s[0]'(by omega)).toNat = 27) (h1 : (s[1]'h2).toNat = 80) (hs : 2 < s.size) (hv : 60 ≤ (s[2]'hs).toNat ∧ (s[2]'hs).toNat ≤ 63) :
 Calls Tryz.prog 52 #[.string s] w (GuessP s.data.toList w) := by
 have HQ := Lib.hid ((guess_seq s h2 h0 3 h1 (by decide)).trans (seq_yes 3 s hs hv))
 have b1 : ((s[0]'(by omega)).toNat : Int) = 27 := by omega
 have b2 : ((s[1]'h2).toNat : Int) = 80 := by omega
 have v1 : (2 : Int) < (s.size : Int) := by omega
 have v2 : (60 : Int) ≤ ((s[2]'hs).toNat : Int) := by omega
 have v3 : ((s[2]'hs).toNat : Int) ≤ (63 : Int) := by omega
 have hlen : s.data.toList.length = s.size := by simp
 obtain ⟨n1, hn1⟩ : ∃ n, runL s.data.toList 3 48 59 = n := ⟨_, rfl⟩
 have r1 := run_le s.data.toList 3 48 59 (by omega)
 rw [hn1, hlen] at r1
 have HN1 := Lib.hid hn1
 obtain ⟨m1, hm1⟩ : ∃ m, 3 + n1 = m := ⟨_, rfl⟩
 rw [hm1] at r1
 have E1 := Lib.hid (ext_list s 3 n1 m1 48 59 hn1 hm1)
 have ew1 : IntKind.i64.wrap ((3 : Int) + (n1 : Int)) = (m1 : Int) := by have := IntWalk.i64_in ((3 : Int) + (n1 : Int)) (by omega); rw [this]; omega
 have q1 : (3 : Int) ≤ (m1 : Int) := by omega
 have q2 : (m1 : Int) ≤ (s.size : Int) := by omega
 obtain ⟨n2, hn2⟩ : ∃ n, runL s.data.toList m1 32 47 = n := ⟨_, rfl⟩
 have r2 := run_le s.data.toList m1 32 47 (by omega)
 rw [hn2, hlen] at r2
 have HN2 := Lib.hid hn2
 obtain ⟨m2, hm2⟩ : ∃ m, m1 + n2 = m := ⟨_, rfl⟩
 rw [hm2] at r2
 have E2 := Lib.hid (ext_str s m1 n2 m2 32 47 hn2 hm2)
 have ew2 : IntKind.i64.wrap ((m1 : Int) + (n2 : Int)) = (m2 : Int) := by have := IntWalk.i64_in ((m1 : Int) + (n2 : Int)) (by omega); rw [this]; omega
 have q3 : (m1 : Int) ≤ (m2 : Int) := by omega
 have q4 : (m2 : Int) ≤ (s.size : Int) := by omega
 obtain ⟨ps, hps⟩ : ∃ p, numsL ((s.data.toList.drop 3).takeWhile (btw 48 59)) = p := ⟨_, rfl⟩
 have HPS := Lib.hid hps
 have HM1 := Lib.hid hm1
 have HM2 := Lib.hid hm2
 have HTN := Lib.hid (tail_none 3 (s[2]'hs) 3 n1 n2 m1 m2 s.data.toList hn1 hm1 hn2 hm2)
 have HTS := Lib.hid (tail_some 3 (s[2]'hs) 3 n1 n2 m1 m2 s.data.toList hn1 hm1 hn2 hm2 ps hps)
 have hzr : Blk ((w.alloc (.cells #[.int .i64 0, .int .u8 0, .slice none 0 0, .string ⟨#[]⟩, .int .u8 0, .string ⟨#[]⟩] 44)).alloc (.cells #[.int .i64 3, .int .u8 (((s[2]'hs).toNat : Nat) : Int), .slice none 0 0, .string ⟨#[]⟩, .int .u8 0, .string ⟨#[]⟩] 44)) w.heap.size 44 #[.int .i64 0, .int .u8 0, .slice none 0 0, .string ⟨#[]⟩, .int .u8 0, .string ⟨#[]⟩] := (Blk.new w _ _).alloc _
 have hbx := Blk.new (w.alloc (.cells #[.int .i64 0, .int .u8 0, .slice none 0 0, .string ⟨#[]⟩, .int .u8 0, .string ⟨#[]⟩] 44)) 44 #[.int .i64 3, .int .u8 (((s[2]'hs).toNat : Nat) : Int), .slice none 0 0, .string ⟨#[]⟩, .int .u8 0, .string ⟨#[]⟩]
 rw [World.size_alloc] at hbx
 have hba : Below w.heap.size w ((w.alloc (.cells #[.int .i64 0, .int .u8 0, .slice none 0 0, .string ⟨#[]⟩, .int .u8 0, .string ⟨#[]⟩] 44)).alloc (.cells #[.int .i64 3, .int .u8 (((s[2]'hs).toNat : Nat) : Int), .slice none 0 0, .string ⟨#[]⟩, .int .u8 0, .string ⟨#[]⟩] 44)) := ((Below.refl _ w).alloc (Nat.le_refl _) _).alloc (by simp) _
 clear hn1 hm1 hn2 hm2 hps
 go_enter Tryz.func52, Tryz.ntmps52
 go_wp2_with fail
 refine (run_str s 3 48 59 n1 _ hl (by omega) HN1.out).mono ?_
 rintro e w1 ⟨rfl, rfl⟩
 go_wp2_with fail
 refine (nums_box (s.extract 3 m1) _ (w.heap.size + 1) _ hbx (ext_size s _ _ hl) ps (by rw [E1.out]; exact HPS.out)).mono ?_
 rintro e w1 ⟨⟨A1, c1, rfl, hr1⟩, hb⟩
 have hbx1 := hbx.below hb hbx.lt
 have hzr1 := hzr.below hb hzr.lt
 have hbw1 := hba.trans (hb.mono hba.size)
 clear hbx hzr hba hb
 obtain ⟨a0, a1, a2, a3, a4, a5⟩ := Blk.cells6 hbx1
 obtain ⟨d0, d1, d2, d3, d4, d5⟩ := Blk.cells6 hzr1
 have y2 := hbx1.frozen 2
 have y3 := hbx1.frozen 3
 have y4 := hbx1.frozen 4
 have y5 := hbx1.frozen 5
 have z0 := hzr1.frozen 0
 have z1 := hzr1.frozen 1
 have z2 := hzr1.frozen 2
 have z3 := hzr1.frozen 3
 have z4 := hzr1.frozen 4
 have z5 := hzr1.frozen 5
 go_wp2_with fail
 refine (run_str s m1 32 47 n2 _ hl (by omega) HN2.out).mono ?_
 rintro e w2 ⟨rfl, rfl⟩
 have hbw3 : Below w.heap.size w ((w1.setCell ⟨w.heap.size + 1, 2, none⟩ (.slice A1 ps.length c1)).setCell ⟨w.heap.size + 1, 3, none⟩ (.string (s.extract m1 m2))) := (hbw1.setCell (p := ⟨w.heap.size + 1, 2, none⟩) (by simp) _).setCell (p := ⟨w.heap.size + 1, 3, none⟩) (by simp) _
 by_cases hlt : m2 < s.size
 ·have k3 : (m2 : Int) < (s.size : Int) := by omega
  have k4 : (0 : Int) ≤ (m2 : Int) := by omega
  have HF := Lib.hid (show s[m2]'hlt = s.data.toList.getD m2 0 by rw [byte_at s m2 hlt, getD_at])
  have hr3 := (hr1.grown (grown_setCell (w.heap.size + 1) 2 (.slice A1 ps.length c1) w1)).grown (grown_setCell (w.heap.size + 1) 3 (.string (s.extract m1 m2)) _)
  have hr4 := hr3.grown (grown_setCell (w.heap.size + 1) 4 (.int .u8 ((s[m2]'hlt).toNat : Int)) _)
  have hz4 := ((hzr1.far (a := ⟨w.heap.size + 1, 2, none⟩) (by simp) (.slice A1 ps.length c1)).far (a := ⟨w.heap.size + 1, 3, none⟩) (by simp) (.string (s.extract m1 m2))).far (a := ⟨w.heap.size + 1, 4, none⟩) (by simp) (.int .u8 ((s[m2]'hlt).toNat : Int))
  have hbw4 := hbw3.setCell (p := ⟨w.heap.size + 1, 4, none⟩) (by simp) (.int .u8 ((s[m2]'hlt).toNat : Int))
  clear hr1 hr3 hzr1 hbw1 hbw3
  obtain ⟨m3, hm3⟩ : ∃ m, m2 + 1 = m := ⟨_, rfl⟩
  obtain ⟨n3, hn3⟩ : ∃ n, runL s.data.toList m3 32 126 = n := ⟨_, rfl⟩
  have r3 := run_le s.data.toList m3 32 126 (by omega)
  rw [hn3, hlen] at r3
  have HN3 := Lib.hid hn3
  obtain ⟨m4, hm4⟩ : ∃ m, m3 + n3 = m := ⟨_, rfl⟩
  rw [hm4] at r3
  have E3 := Lib.hid (ext_str s m3 n3 m4 32 126 hn3 hm4)
  have ew3 : IntKind.i64.wrap ((m2 : Int) + 1) = (m3 : Int) := by have := IntWalk.i64_in ((m2 : Int) + 1) (by omega); rw [this]; omega
  have ew4 : IntKind.i64.wrap ((m3 : Int) + (n3 : Int)) = (m4 : Int) := by have := IntWalk.i64_in ((m3 : Int) + (n3 : Int)) (by omega); rw [this]; omega
  have q5 : (m3 : Int) ≤ (m4 : Int) := by omega
  have q6 : (m4 : Int) ≤ (s.size : Int) := by omega
  have HG := Lib.hid (HQ.out.trans (tail_3 HTS.out (by omega) HF.out hm3 hn3 hm4))
  have hr5 := hr4.grown (grown_setCell (w.heap.size + 1) 5 (.string (s.extract m3 m4)) _)
  have hz5 := hz4.far (a := ⟨w.heap.size + 1, 5, none⟩) (by simp) (.string (s.extract m3 m4))
  have hbw5 := hbw4.setCell (p := ⟨w.heap.size + 1, 5, none⟩) (by simp) (.string (s.extract m3 m4))
  clear hr4 hz4 hbw4 hm3 hn3 hm4
  go_wp2_with fail
  refine (run_str s m3 32 126 n3 _ hl (by omega) HN3.out).mono ?_
  rintro e w2 ⟨rfl, rfl⟩
  go_wp2_with fail
  refine bodyPost_ret (v := .tuple #[.agg #[.int .i64 3, .int .u8 (((s[2]'hs).toNat : Nat) : Int), .slice A1 ps.length c1, .string (s.extract m1 m2), .int .u8 ((s[m2]'hlt).toNat : Int), .string (s.extract m3 m4)], .int .i64 ((m4 : Int) + 2)]) (by simp [results, Tryz.results52, go_sem, d0, d1, d2, d3, d4, d5]) rfl (gp_yes HG.out A1 c1 (by rw [E2.out, E3.out]; rfl) (hr5.other hz5 (by decide) (by decide) (grown_set6 _ w.heap.size _ _ _ _ _ _)) (below_set6 hbw5 (Nat.le_refl _) _ _ _ _ _ _))
 ·have k3 : (s.size : Int) ≤ (m2 : Int) := by omega
  have HG := Lib.hid (HQ.out.trans (HTN.out (by omega)))
  go_wp2_with fail
  refine bodyPost_ret (v := .tuple #[.agg #[.int .i64 3, .int .u8 (((s[2]'hs).toNat : Nat) : Int), .slice A1 ps.length c1, .string (s.extract m1 m2), .int .u8 0, .string ⟨#[]⟩], .int .i64 (-1)]) (by simp [results, Tryz.results52, go_sem, d0, d1, d2, d3, d4, d5]) rfl (gp_no HG.out _ _ _ _ _ _ _ _ rfl (below_set6 hbw3 (Nat.le_refl _) _ _ _ _ _ _))
end Go.Proofs.YtjlhhelikiegdaaGreatDoor
