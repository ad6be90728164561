/-
  Stage 19, walked: the document's Setting, Fine, Flags, Attributes; the landed Fine, Flags, Attributes.
-/
import Derived.Test.YtfifeofmfpjgfaaDoorG11
import Derived.Test.YtfifeofmfpjgfaaDoorG33
import Derived.Test.YtfifeofmfpjgfaaDoorG34
namespace Go.Proofs.YtfifeofmfpjgfaaDoor
open Go.RowKit
theorem setR19 {s : Sc} {ask T : List UInt8} (h : saidR s ask = T) : setR s ask = ⟨3, 0, [[if T = [] then 0 else 1]], [36], 114, T⟩ := by unfold setR; rw [h]
set_option maxRecDepth 100000 in
set_option maxHeartbeats 16000000 in
theorem rSetting19_any (s : Sc) (ask : List UInt8) (w : World) : Calls Tryd.prog 14 #[scV s, .string ⟨ask.toArray⟩] w (RepE (setR s ask) w) := by
 obtain ⟨T, hT⟩ : ∃ T, saidR s ask = T := ⟨_, rfl⟩
 have HS := Lib.hid (rsaid19_any s ask)
 have HE := Lib.hid (setR19 hT)
 obtain ⟨R, hR⟩ : ∃ R, setR s ask = R := ⟨_, rfl⟩
 rw [hR] at HE ⊢
 rw [hT] at HS
 clear hT hR
 obtain ⟨s0, s1, s2, s3, s4, s5, s6, s7, s8, ⟨s9, s10, s11, s12, s13, s14, s15, s16, s17, s18⟩⟩ := s
 unfold scV at HS ⊢
 simp only at HS ⊢
 have kb := (Blk.new w 25 #[.int .i64 s0, .int .i64 s1, .int .i64 s2, .int .i64 s3, .int .i64 s4, .int .i64 s5, .int .i64 s6, .int .i64 s7, .int .i64 s8, .bool s9, .bool s10, .bool s11, .bool s12, .bool s13, .bool s14, .bool s15, .int .i64 s16, .int .i64 s17, .int .i64 s18]).alloc (.cells #[.int .i64 0, .int .u8 0, .slice none 0 0, .string ⟨#[]⟩, .int .u8 0, .string ⟨#[]⟩] 30)
 have z0 := Blk.new (w.alloc (.cells #[.int .i64 s0, .int .i64 s1, .int .i64 s2, .int .i64 s3, .int .i64 s4, .int .i64 s5, .int .i64 s6, .int .i64 s7, .int .i64 s8, .bool s9, .bool s10, .bool s11, .bool s12, .bool s13, .bool s14, .bool s15, .int .i64 s16, .int .i64 s17, .int .i64 s18] 25)) 30 #[.int .i64 0, .int .u8 0, .slice none 0 0, .string ⟨#[]⟩, .int .u8 0, .string ⟨#[]⟩]
 rw [World.size_alloc] at z0
 have hB0 := ((Below.refl w.heap.size w).alloc (Nat.le_refl _) (.cells #[.int .i64 s0, .int .i64 s1, .int .i64 s2, .int .i64 s3, .int .i64 s4, .int .i64 s5, .int .i64 s6, .int .i64 s7, .int .i64 s8, .bool s9, .bool s10, .bool s11, .bool s12, .bool s13, .bool s14, .bool s15, .int .i64 s16, .int .i64 s17, .int .i64 s18] 25)).alloc (by simp) (.cells #[.int .i64 0, .int .u8 0, .slice none 0 0, .string ⟨#[]⟩, .int .u8 0, .string ⟨#[]⟩] 30)
 go_enter Tryd.func14, Tryd.ntmps14
 go_upto_region 1 with (fail)
 obtain ⟨w1, hw1⟩ : ∃ x, (w.alloc (.cells #[.int .i64 s0, .int .i64 s1, .int .i64 s2, .int .i64 s3, .int .i64 s4, .int .i64 s5, .int .i64 s6, .int .i64 s7, .int .i64 s8, .bool s9, .bool s10, .bool s11, .bool s12, .bool s13, .bool s14, .bool s15, .int .i64 s16, .int .i64 s17, .int .i64 s18] 25)).alloc (.cells #[.int .i64 0, .int .u8 0, .slice none 0 0, .string ⟨#[]⟩, .int .u8 0, .string ⟨#[]⟩] 30) = x := ⟨_, rfl⟩
 rw [hw1] at kb z0 hB0 ⊢
 clear hw1
 go_wp2_with (with_reducible refine Blk.wp_get kb Tryd.underlying25 rfl (by kernel_rfl) rfl (.tmp 2) rfl rfl ?_)
 refine (HS.out _).mono ?_
 rintro e w2 ⟨rfl, hb2⟩
 have z2 := z0.below hb2 z0.lt
 have hB2 := hB0.trans (hb2.mono hB0.size)
 have hlt2 := z2.lt
 clear HS kb z0 hB0 hb2
 by_cases hT0 : T = []
 ·subst hT0
  have k4 := ((Blk.new w2 30 #[.int .i64 3, .int .u8 0, .slice (some ⟨w2.heap.size + 1 + 1, 0, none⟩) 1 1, .string ⟨#[36]⟩, .int .u8 114, .string ⟨#[]⟩]).alloc (.cells #[.int .i64 0] 3)).alloc (.cells #[.slice (some ⟨w2.heap.size + 1, 0, none⟩) 1 1] 52)
  have hr5 := rdpn_lit (w2.alloc (.cells #[.int .i64 3, .int .u8 0, .slice (some ⟨w2.heap.size + 1 + 1, 0, none⟩) 1 1, .string ⟨#[36]⟩, .int .u8 114, .string ⟨#[]⟩] 30)) 0
  simp only [World.size_alloc] at hr5
  have hB4 : Below w.heap.size w (((w2.alloc (.cells #[.int .i64 3, .int .u8 0, .slice (some ⟨w2.heap.size + 1 + 1, 0, none⟩) 1 1, .string ⟨#[36]⟩, .int .u8 114, .string ⟨#[]⟩] 30)).alloc (.cells #[.int .i64 0] 3)).alloc (.cells #[.slice (some ⟨w2.heap.size + 1, 0, none⟩) 1 1] 52)) := ((hB2.alloc hB2.size _).alloc (by simp; have := hB2.size; omega) _).alloc (by simp; have := hB2.size; omega) _
  have z4 : Blk (((w2.alloc (.cells #[.int .i64 3, .int .u8 0, .slice (some ⟨w2.heap.size + 1 + 1, 0, none⟩) 1 1, .string ⟨#[36]⟩, .int .u8 114, .string ⟨#[]⟩] 30)).alloc (.cells #[.int .i64 0] 3)).alloc (.cells #[.slice (some ⟨w2.heap.size + 1, 0, none⟩) 1 1] 52)) (w.heap.size + 1) 30 #[.int .i64 0, .int .u8 0, .slice none 0 0, .string ⟨#[]⟩, .int .u8 0, .string ⟨#[]⟩] := ((z2.alloc _).alloc _).alloc _
  go_upto_region 6 with (fail)
  obtain ⟨w4, hw4⟩ : ∃ x, ((w2.alloc (.cells #[.int .i64 3, .int .u8 0, .slice (some ⟨w2.heap.size + 1 + 1, 0, none⟩) 1 1, .string ⟨#[36]⟩, .int .u8 114, .string ⟨#[]⟩] 30)).alloc (.cells #[.int .i64 0] 3)).alloc (.cells #[.slice (some ⟨w2.heap.size + 1, 0, none⟩) 1 1] 52) = x := ⟨_, rfl⟩
  rw [hw4] at k4 hr5 hB4 z4 ⊢
  clear hw4
  have hr6 := hr5.other z4 (by decide) (by decide) (grown_set6 w4 (w.heap.size + 1) (.int .i64 3) (.int .u8 0) (.slice (some ⟨w2.heap.size + 1 + 1, 0, none⟩) 1 1) (.string ⟨#[36]⟩) (.int .u8 114) (.string ⟨#[]⟩))
  have hB6 := below_set6 hB4 (b := w.heap.size + 1) (Nat.le_succ _) (.int .i64 3) (.int .u8 0) (.slice (some ⟨w2.heap.size + 1 + 1, 0, none⟩) 1 1) (.string ⟨#[36]⟩) (.int .u8 114) (.string ⟨#[]⟩)
  obtain ⟨d0, d1, d2, d3, d4, d5⟩ := Blk.cells6 k4
  obtain ⟨x0, x1, x2, x3, x4, x5⟩ := Blk.cells6 z4
  have y0 := z4.frozen 0
  have y1 := z4.frozen 1
  have y2 := z4.frozen 2
  have y3 := z4.frozen 3
  have y4 := z4.frozen 4
  have y5 := z4.frozen 5
  go_wp2_with fail
  refine bodyPost_ret (v := .agg #[.int .i64 3, .int .u8 0, .slice (some ⟨w2.heap.size + 1 + 1, 0, none⟩) 1 1, .string ⟨#[36]⟩, .int .u8 114, .string ⟨#[]⟩]) (by simp [results, Tryd.results14, go_sem, x0, x1, x2, x3, x4, x5]) rfl ⟨_, _, by rw [HE.out]; rfl, by rw [HE.out]; exact hr6.rdp, hB6⟩
 ·have hTE : (T == []) = false := beq_eq_false_iff_ne.2 hT0
  have k4 := ((Blk.new w2 30 #[.int .i64 3, .int .u8 0, .slice (some ⟨w2.heap.size + 1 + 1, 0, none⟩) 1 1, .string ⟨#[36]⟩, .int .u8 114, .string ⟨T.toArray⟩]).alloc (.cells #[.int .i64 1] 3)).alloc (.cells #[.slice (some ⟨w2.heap.size + 1, 0, none⟩) 1 1] 52)
  have hr5 := rdpn_lit (w2.alloc (.cells #[.int .i64 3, .int .u8 0, .slice (some ⟨w2.heap.size + 1 + 1, 0, none⟩) 1 1, .string ⟨#[36]⟩, .int .u8 114, .string ⟨T.toArray⟩] 30)) 1
  simp only [World.size_alloc] at hr5
  have hB4 : Below w.heap.size w (((w2.alloc (.cells #[.int .i64 3, .int .u8 0, .slice (some ⟨w2.heap.size + 1 + 1, 0, none⟩) 1 1, .string ⟨#[36]⟩, .int .u8 114, .string ⟨T.toArray⟩] 30)).alloc (.cells #[.int .i64 1] 3)).alloc (.cells #[.slice (some ⟨w2.heap.size + 1, 0, none⟩) 1 1] 52)) := ((hB2.alloc hB2.size _).alloc (by simp; have := hB2.size; omega) _).alloc (by simp; have := hB2.size; omega) _
  have z4 : Blk (((w2.alloc (.cells #[.int .i64 3, .int .u8 0, .slice (some ⟨w2.heap.size + 1 + 1, 0, none⟩) 1 1, .string ⟨#[36]⟩, .int .u8 114, .string ⟨T.toArray⟩] 30)).alloc (.cells #[.int .i64 1] 3)).alloc (.cells #[.slice (some ⟨w2.heap.size + 1, 0, none⟩) 1 1] 52)) (w.heap.size + 1) 30 #[.int .i64 0, .int .u8 0, .slice none 0 0, .string ⟨#[]⟩, .int .u8 0, .string ⟨#[]⟩] := ((z2.alloc _).alloc _).alloc _
  go_upto_region 6 with (fail)
  obtain ⟨w4, hw4⟩ : ∃ x, ((w2.alloc (.cells #[.int .i64 3, .int .u8 0, .slice (some ⟨w2.heap.size + 1 + 1, 0, none⟩) 1 1, .string ⟨#[36]⟩, .int .u8 114, .string ⟨T.toArray⟩] 30)).alloc (.cells #[.int .i64 1] 3)).alloc (.cells #[.slice (some ⟨w2.heap.size + 1, 0, none⟩) 1 1] 52) = x := ⟨_, rfl⟩
  rw [hw4] at k4 hr5 hB4 z4 ⊢
  clear hw4
  have hr6 := hr5.other z4 (by decide) (by decide) (grown_set6 w4 (w.heap.size + 1) (.int .i64 3) (.int .u8 0) (.slice (some ⟨w2.heap.size + 1 + 1, 0, none⟩) 1 1) (.string ⟨#[36]⟩) (.int .u8 114) (.string ⟨T.toArray⟩))
  have hB6 := below_set6 hB4 (b := w.heap.size + 1) (Nat.le_succ _) (.int .i64 3) (.int .u8 0) (.slice (some ⟨w2.heap.size + 1 + 1, 0, none⟩) 1 1) (.string ⟨#[36]⟩) (.int .u8 114) (.string ⟨T.toArray⟩)
  obtain ⟨d0, d1, d2, d3, d4, d5⟩ := Blk.cells6 k4
  obtain ⟨x0, x1, x2, x3, x4, x5⟩ := Blk.cells6 z4
  have y0 := z4.frozen 0
  have y1 := z4.frozen 1
  have y2 := z4.frozen 2
  have y3 := z4.frozen 3
  have y4 := z4.frozen 4
  have y5 := z4.frozen 5
  go_wp2_with fail
  refine bodyPost_ret (v := .agg #[.int .i64 3, .int .u8 0, .slice (some ⟨w2.heap.size + 1 + 1, 0, none⟩) 1 1, .string ⟨#[36]⟩, .int .u8 114, .string ⟨T.toArray⟩]) (by simp [results, Tryd.results14, go_sem, x0, x1, x2, x3, x4, x5]) rfl ⟨_, _, by rw [HE.out, if_neg hT0]; rfl, by rw [HE.out, if_neg hT0]; exact hr6.rdp, hB6⟩
set_option maxRecDepth 100000 in
set_option maxHeartbeats 16000000 in
theorem pfine_any (w : World) : Calls Tryd.prog 21 #[] w (RepE fineR w) := by
 have HC : Hid (∀ A c W, Rd W A (is_ [0]) → Calls Tryd.prog 30 #[.int .u8 0, .int .u8 110, .slice A 1 c] W (NumR 0 110 [0] 1 W)) := Lib.hid fun A c W hr => rnum_any 0 110 0 110 rfl rfl _ 1 rfl (by decide) A c W hr
 have z0 := Blk.new w 30 #[.int .i64 0, .int .u8 0, .slice none 0 0, .string ⟨#[]⟩, .int .u8 0, .string ⟨#[]⟩]
 have hB0 := (Below.refl w.heap.size w).alloc (Nat.le_refl _) (.cells #[.int .i64 0, .int .u8 0, .slice none 0 0, .string ⟨#[]⟩, .int .u8 0, .string ⟨#[]⟩] 30)
 go_enter Tryd.func21, Tryd.ntmps21
 have hr4 : Rd ((w.alloc (.cells #[.int .i64 0, .int .u8 0, .slice none 0 0, .string ⟨#[]⟩, .int .u8 0, .string ⟨#[]⟩] 30)).alloc (.cells #[.int .i64 0] 3)) (some ⟨(w.alloc (.cells #[.int .i64 0, .int .u8 0, .slice none 0 0, .string ⟨#[]⟩, .int .u8 0, .string ⟨#[]⟩] 30)).heap.size, 0, none⟩) (is_ [0]) := Rd.block (heap_alloc_new (w.alloc (.cells #[.int .i64 0, .int .u8 0, .slice none 0 0, .string ⟨#[]⟩, .int .u8 0, .string ⟨#[]⟩] 30)) _) (by simp [is_])
 have z4 := z0.alloc (.cells #[.int .i64 0] 3)
 have hB4 := hB0.alloc hB0.size (.cells #[.int .i64 0] 3)
 try simp only [World.size_alloc] at hr4
 go_wp2_with fail
 refine (HC.out _ 1 _ hr4).mono ?_
 rintro e w5 ⟨A5, c5, g5, rfl, hr5, hb5⟩
 have hB5 := hB4.trans (hb5.mono hB4.size)
 have z5 := z4.below hb5 z4.lt
 clear hr4 hb5 hB4 z4
 have hr6 := hr5.other z5 (by decide) (by decide) (grown_set6 w5 (w.heap.size) (.int .i64 1) (.int .u8 0) (.slice A5 1 c5) (.string ⟨#[]⟩) (.int .u8 110) (.string ⟨#[]⟩))
 have hB6 := below_set6 hB5 (b := w.heap.size) (by omega) (.int .i64 1) (.int .u8 0) (.slice A5 1 c5) (.string ⟨#[]⟩) (.int .u8 110) (.string ⟨#[]⟩)
 obtain ⟨d0, d1, d2, d3, d4, d5⟩ := Blk.cells6 z5
 have y0 := z5.frozen 0
 have y1 := z5.frozen 1
 have y2 := z5.frozen 2
 have y3 := z5.frozen 3
 have y4 := z5.frozen 4
 have y5 := z5.frozen 5
 go_wp2_with fail
 refine bodyPost_ret (v := .agg #[.int .i64 1, .int .u8 0, .slice A5 1 c5, .string ⟨#[]⟩, .int .u8 110, .string ⟨#[]⟩]) (by simp [results, Tryd.results21, go_sem, d0, d1, d2, d3, d4, d5]) rfl ⟨_, _, rfl, hr6.rdp, hB6⟩
set_option maxRecDepth 100000 in
set_option maxHeartbeats 16000000 in
theorem rfine19_any (w : World) : Calls Tryd.prog 22 #[] w (RepE fineR w) := by
 have HC : Hid (∀ A c W, Rd W A (is_ [0]) → Calls Tryd.prog 31 #[.int .u8 0, .int .u8 110, .slice A 1 c] W (NumR 0 110 [0] 1 W)) := Lib.hid fun A c W hr => rnums19_any 0 110 A _ 1 c rfl (by decide) W hr
 have z0 := Blk.new w 30 #[.int .i64 0, .int .u8 0, .slice none 0 0, .string ⟨#[]⟩, .int .u8 0, .string ⟨#[]⟩]
 have hB0 := (Below.refl w.heap.size w).alloc (Nat.le_refl _) (.cells #[.int .i64 0, .int .u8 0, .slice none 0 0, .string ⟨#[]⟩, .int .u8 0, .string ⟨#[]⟩] 30)
 go_enter Tryd.func22, Tryd.ntmps22
 have hr4 : Rd ((w.alloc (.cells #[.int .i64 0, .int .u8 0, .slice none 0 0, .string ⟨#[]⟩, .int .u8 0, .string ⟨#[]⟩] 30)).alloc (.cells #[.int .i64 0] 3)) (some ⟨(w.alloc (.cells #[.int .i64 0, .int .u8 0, .slice none 0 0, .string ⟨#[]⟩, .int .u8 0, .string ⟨#[]⟩] 30)).heap.size, 0, none⟩) (is_ [0]) := Rd.block (heap_alloc_new (w.alloc (.cells #[.int .i64 0, .int .u8 0, .slice none 0 0, .string ⟨#[]⟩, .int .u8 0, .string ⟨#[]⟩] 30)) _) (by simp [is_])
 have z4 := z0.alloc (.cells #[.int .i64 0] 3)
 have hB4 := hB0.alloc hB0.size (.cells #[.int .i64 0] 3)
 try simp only [World.size_alloc] at hr4
 go_wp2_with fail
 refine (HC.out _ 1 _ hr4).mono ?_
 rintro e w5 ⟨A5, c5, g5, rfl, hr5, hb5⟩
 have hB5 := hB4.trans (hb5.mono hB4.size)
 have z5 := z4.below hb5 z4.lt
 clear hr4 hb5 hB4 z4
 have hr6 := hr5.other z5 (by decide) (by decide) (grown_set6 w5 (w.heap.size) (.int .i64 1) (.int .u8 0) (.slice A5 1 c5) (.string ⟨#[]⟩) (.int .u8 110) (.string ⟨#[]⟩))
 have hB6 := below_set6 hB5 (b := w.heap.size) (by omega) (.int .i64 1) (.int .u8 0) (.slice A5 1 c5) (.string ⟨#[]⟩) (.int .u8 110) (.string ⟨#[]⟩)
 obtain ⟨d0, d1, d2, d3, d4, d5⟩ := Blk.cells6 z5
 have y0 := z5.frozen 0
 have y1 := z5.frozen 1
 have y2 := z5.frozen 2
 have y3 := z5.frozen 3
 have y4 := z5.frozen 4
 have y5 := z5.frozen 5
 go_wp2_with fail
 refine bodyPost_ret (v := .agg #[.int .i64 1, .int .u8 0, .slice A5 1 c5, .string ⟨#[]⟩, .int .u8 110, .string ⟨#[]⟩]) (by simp [results, Tryd.results22, go_sem, d0, d1, d2, d3, d4, d5]) rfl ⟨_, _, rfl, hr6.rdp, hB6⟩
set_option maxRecDepth 100000 in
set_option maxHeartbeats 16000000 in
theorem pattr_any (c : UInt8) (w : World) : Calls Tryd.prog 15 #[.int .u8 (c.toNat : Int)] w (RepE (attrR c) w) := by
 have HC1 : Hid (∀ A c W, Rd W A (is_ [62, 22]) → Calls Tryd.prog 30 #[.int .u8 63, .int .u8 99, .slice A 2 c] W (NumR 63 99 [62, 22] 2 W)) := Lib.hid fun A c W hr => rnum_any 63 99 63 99 rfl rfl _ 2 rfl (by decide) A c W hr
 have HC2 : Hid (∀ A c W, Rd W A (is_ [41, 1, 0]) → Calls Tryd.prog 30 #[.int .u8 62, .int .u8 99, .slice A 3 c] W (NumR 62 99 [41, 1, 0] 3 W)) := Lib.hid fun A c W hr => rnum_any 62 99 62 99 rfl rfl _ 3 rfl (by decide) A c W hr
 have z0 := Blk.new w 30 #[.int .i64 0, .int .u8 0, .slice none 0 0, .string ⟨#[]⟩, .int .u8 0, .string ⟨#[]⟩]
 have hB0 := (Below.refl w.heap.size w).alloc (Nat.le_refl _) (.cells #[.int .i64 0, .int .u8 0, .slice none 0 0, .string ⟨#[]⟩, .int .u8 0, .string ⟨#[]⟩] 30)
 by_cases h0 : c = 0
 ·subst h0
  clear HC2
  go_enter Tryd.func15, Tryd.ntmps15
  have hr4 : Rd ((w.alloc (.cells #[.int .i64 0, .int .u8 0, .slice none 0 0, .string ⟨#[]⟩, .int .u8 0, .string ⟨#[]⟩] 30)).alloc (.cells #[.int .i64 62, .int .i64 22] 3)) (some ⟨(w.alloc (.cells #[.int .i64 0, .int .u8 0, .slice none 0 0, .string ⟨#[]⟩, .int .u8 0, .string ⟨#[]⟩] 30)).heap.size, 0, none⟩) (is_ [62, 22]) := Rd.block (heap_alloc_new (w.alloc (.cells #[.int .i64 0, .int .u8 0, .slice none 0 0, .string ⟨#[]⟩, .int .u8 0, .string ⟨#[]⟩] 30)) _) (by simp [is_])
  have z4 := z0.alloc (.cells #[.int .i64 62, .int .i64 22] 3)
  have hB4 := hB0.alloc hB0.size (.cells #[.int .i64 62, .int .i64 22] 3)
  try simp only [World.size_alloc] at hr4
  go_wp2_with fail
  refine (HC1.out _ 2 _ hr4).mono ?_
  rintro e w5 ⟨A5, c5, g5, rfl, hr5, hb5⟩
  have hB5 := hB4.trans (hb5.mono hB4.size)
  have z5 := z4.below hb5 z4.lt
  clear hr4 hb5 hB4 z4
  have hr6 := hr5.other z5 (by decide) (by decide) (grown_set6 w5 (w.heap.size) (.int .i64 1) (.int .u8 63) (.slice A5 2 c5) (.string ⟨#[]⟩) (.int .u8 99) (.string ⟨#[]⟩))
  have hB6 := below_set6 hB5 (b := w.heap.size) (by omega) (.int .i64 1) (.int .u8 63) (.slice A5 2 c5) (.string ⟨#[]⟩) (.int .u8 99) (.string ⟨#[]⟩)
  obtain ⟨d0, d1, d2, d3, d4, d5⟩ := Blk.cells6 z5
  have y0 := z5.frozen 0
  have y1 := z5.frozen 1
  have y2 := z5.frozen 2
  have y3 := z5.frozen 3
  have y4 := z5.frozen 4
  have y5 := z5.frozen 5
  go_wp2_with fail
  refine bodyPost_ret (v := .agg #[.int .i64 1, .int .u8 63, .slice A5 2 c5, .string ⟨#[]⟩, .int .u8 99, .string ⟨#[]⟩]) (by simp [results, Tryd.results15, go_sem, d0, d1, d2, d3, d4, d5]) rfl ⟨_, _, rfl, hr6.rdp, hB6⟩
 have e0 : ((c.toNat : Int) == 0) = false := (byte_ne (b := 0) h0).1
 by_cases h1 : c = 62
 ·subst h1
  clear HC1 e0
  go_enter Tryd.func15, Tryd.ntmps15
  have hr4 : Rd ((w.alloc (.cells #[.int .i64 0, .int .u8 0, .slice none 0 0, .string ⟨#[]⟩, .int .u8 0, .string ⟨#[]⟩] 30)).alloc (.cells #[.int .i64 41, .int .i64 1, .int .i64 0] 3)) (some ⟨(w.alloc (.cells #[.int .i64 0, .int .u8 0, .slice none 0 0, .string ⟨#[]⟩, .int .u8 0, .string ⟨#[]⟩] 30)).heap.size, 0, none⟩) (is_ [41, 1, 0]) := Rd.block (heap_alloc_new (w.alloc (.cells #[.int .i64 0, .int .u8 0, .slice none 0 0, .string ⟨#[]⟩, .int .u8 0, .string ⟨#[]⟩] 30)) _) (by simp [is_])
  have z4 := z0.alloc (.cells #[.int .i64 41, .int .i64 1, .int .i64 0] 3)
  have hB4 := hB0.alloc hB0.size (.cells #[.int .i64 41, .int .i64 1, .int .i64 0] 3)
  try simp only [World.size_alloc] at hr4
  go_wp2_with fail
  refine (HC2.out _ 3 _ hr4).mono ?_
  rintro e w5 ⟨A5, c5, g5, rfl, hr5, hb5⟩
  have hB5 := hB4.trans (hb5.mono hB4.size)
  have z5 := z4.below hb5 z4.lt
  clear hr4 hb5 hB4 z4
  have hr6 := hr5.other z5 (by decide) (by decide) (grown_set6 w5 (w.heap.size) (.int .i64 1) (.int .u8 62) (.slice A5 3 c5) (.string ⟨#[]⟩) (.int .u8 99) (.string ⟨#[]⟩))
  have hB6 := below_set6 hB5 (b := w.heap.size) (by omega) (.int .i64 1) (.int .u8 62) (.slice A5 3 c5) (.string ⟨#[]⟩) (.int .u8 99) (.string ⟨#[]⟩)
  obtain ⟨d0, d1, d2, d3, d4, d5⟩ := Blk.cells6 z5
  have y0 := z5.frozen 0
  have y1 := z5.frozen 1
  have y2 := z5.frozen 2
  have y3 := z5.frozen 3
  have y4 := z5.frozen 4
  have y5 := z5.frozen 5
  go_wp2_with fail
  refine bodyPost_ret (v := .agg #[.int .i64 1, .int .u8 62, .slice A5 3 c5, .string ⟨#[]⟩, .int .u8 99, .string ⟨#[]⟩]) (by simp [results, Tryd.results15, go_sem, d0, d1, d2, d3, d4, d5]) rfl ⟨_, _, rfl, hr6.rdp, hB6⟩
 have e1 : ((c.toNat : Int) == 62) = false := (byte_ne (b := 62) h1).1
 clear HC1 HC2 z0 hB0
 by_cases h2 : c = 61
 ·subst h2
  have hB := (Below.refl w.heap.size w).alloc (Nat.le_refl _) (.cells #[.int .i64 3, .int .u8 0, .slice none 0 0, .string ⟨#[33]⟩, .int .u8 124, .string ⟨#[48, 48, 48, 48, 48, 48, 48, 48]⟩] 30)
  clear e0 e1
  go_enter Tryd.func15, Tryd.ntmps15
  go_wp2_with fail
  refine bodyPost_ret (v := .agg #[.int .i64 3, .int .u8 0, .slice none 0 0, .string ⟨#[33]⟩, .int .u8 124, .string ⟨#[48, 48, 48, 48, 48, 48, 48, 48]⟩]) (by simp [results, Tryd.results15, go_sem]) rfl ⟨_, _, rfl, fun h => absurd h (by decide), hB⟩
 have e2 : ((c.toNat : Int) == 61) = false := (byte_ne (b := 61) h2).1
 have HE : attrR c = ⟨0, 0, [], [], 0, []⟩ := by unfold attrR; rw [if_neg h0, if_neg h1, if_neg h2]
 rw [HE]
 clear HE h0 h1 h2
 have hB := (Below.refl w.heap.size w).alloc (Nat.le_refl _) (.cells #[.int .i64 0, .int .u8 0, .slice none 0 0, .string ⟨#[]⟩, .int .u8 0, .string ⟨#[]⟩] 30)
 go_enter Tryd.func15, Tryd.ntmps15
 go_wp2_with fail
 refine bodyPost_ret (v := .agg #[.int .i64 0, .int .u8 0, .slice none 0 0, .string ⟨#[]⟩, .int .u8 0, .string ⟨#[]⟩]) (by simp [results, Tryd.results15, go_sem]) rfl ⟨_, _, rfl, fun h => absurd h (by decide), hB⟩
set_option maxRecDepth 100000 in
set_option maxHeartbeats 16000000 in
theorem rattr19_any (c : UInt8) (w : World) : Calls Tryd.prog 16 #[.int .u8 (c.toNat : Int)] w (RepE (attrR c) w) := by
 have HC1 : Hid (∀ A c W, Rd W A (is_ [62, 22]) → Calls Tryd.prog 31 #[.int .u8 63, .int .u8 99, .slice A 2 c] W (NumR 63 99 [62, 22] 2 W)) := Lib.hid fun A c W hr => rnums19_any 63 99 A _ 2 c rfl (by decide) W hr
 have HC2 : Hid (∀ A c W, Rd W A (is_ [41, 1, 0]) → Calls Tryd.prog 31 #[.int .u8 62, .int .u8 99, .slice A 3 c] W (NumR 62 99 [41, 1, 0] 3 W)) := Lib.hid fun A c W hr => rnums19_any 62 99 A _ 3 c rfl (by decide) W hr
 have z0 := Blk.new w 30 #[.int .i64 0, .int .u8 0, .slice none 0 0, .string ⟨#[]⟩, .int .u8 0, .string ⟨#[]⟩]
 have hB0 := (Below.refl w.heap.size w).alloc (Nat.le_refl _) (.cells #[.int .i64 0, .int .u8 0, .slice none 0 0, .string ⟨#[]⟩, .int .u8 0, .string ⟨#[]⟩] 30)
 by_cases h0 : c = 0
 ·subst h0
  clear HC2
  go_enter Tryd.func16, Tryd.ntmps16
  have hr4 : Rd ((w.alloc (.cells #[.int .i64 0, .int .u8 0, .slice none 0 0, .string ⟨#[]⟩, .int .u8 0, .string ⟨#[]⟩] 30)).alloc (.cells #[.int .i64 62, .int .i64 22] 3)) (some ⟨(w.alloc (.cells #[.int .i64 0, .int .u8 0, .slice none 0 0, .string ⟨#[]⟩, .int .u8 0, .string ⟨#[]⟩] 30)).heap.size, 0, none⟩) (is_ [62, 22]) := Rd.block (heap_alloc_new (w.alloc (.cells #[.int .i64 0, .int .u8 0, .slice none 0 0, .string ⟨#[]⟩, .int .u8 0, .string ⟨#[]⟩] 30)) _) (by simp [is_])
  have z4 := z0.alloc (.cells #[.int .i64 62, .int .i64 22] 3)
  have hB4 := hB0.alloc hB0.size (.cells #[.int .i64 62, .int .i64 22] 3)
  try simp only [World.size_alloc] at hr4
  go_wp2_with fail
  refine (HC1.out _ 2 _ hr4).mono ?_
  rintro e w5 ⟨A5, c5, g5, rfl, hr5, hb5⟩
  have hB5 := hB4.trans (hb5.mono hB4.size)
  have z5 := z4.below hb5 z4.lt
  clear hr4 hb5 hB4 z4
  have hr6 := hr5.other z5 (by decide) (by decide) (grown_set6 w5 (w.heap.size) (.int .i64 1) (.int .u8 63) (.slice A5 2 c5) (.string ⟨#[]⟩) (.int .u8 99) (.string ⟨#[]⟩))
  have hB6 := below_set6 hB5 (b := w.heap.size) (by omega) (.int .i64 1) (.int .u8 63) (.slice A5 2 c5) (.string ⟨#[]⟩) (.int .u8 99) (.string ⟨#[]⟩)
  obtain ⟨d0, d1, d2, d3, d4, d5⟩ := Blk.cells6 z5
  have y0 := z5.frozen 0
  have y1 := z5.frozen 1
  have y2 := z5.frozen 2
  have y3 := z5.frozen 3
  have y4 := z5.frozen 4
  have y5 := z5.frozen 5
  go_wp2_with fail
  refine bodyPost_ret (v := .agg #[.int .i64 1, .int .u8 63, .slice A5 2 c5, .string ⟨#[]⟩, .int .u8 99, .string ⟨#[]⟩]) (by simp [results, Tryd.results16, go_sem, d0, d1, d2, d3, d4, d5]) rfl ⟨_, _, rfl, hr6.rdp, hB6⟩
 have e0 : ((c.toNat : Int) == 0) = false := (byte_ne (b := 0) h0).1
 by_cases h1 : c = 62
 ·subst h1
  clear HC1 e0
  go_enter Tryd.func16, Tryd.ntmps16
  have hr4 : Rd ((w.alloc (.cells #[.int .i64 0, .int .u8 0, .slice none 0 0, .string ⟨#[]⟩, .int .u8 0, .string ⟨#[]⟩] 30)).alloc (.cells #[.int .i64 41, .int .i64 1, .int .i64 0] 3)) (some ⟨(w.alloc (.cells #[.int .i64 0, .int .u8 0, .slice none 0 0, .string ⟨#[]⟩, .int .u8 0, .string ⟨#[]⟩] 30)).heap.size, 0, none⟩) (is_ [41, 1, 0]) := Rd.block (heap_alloc_new (w.alloc (.cells #[.int .i64 0, .int .u8 0, .slice none 0 0, .string ⟨#[]⟩, .int .u8 0, .string ⟨#[]⟩] 30)) _) (by simp [is_])
  have z4 := z0.alloc (.cells #[.int .i64 41, .int .i64 1, .int .i64 0] 3)
  have hB4 := hB0.alloc hB0.size (.cells #[.int .i64 41, .int .i64 1, .int .i64 0] 3)
  try simp only [World.size_alloc] at hr4
  go_wp2_with fail
  refine (HC2.out _ 3 _ hr4).mono ?_
  rintro e w5 ⟨A5, c5, g5, rfl, hr5, hb5⟩
  have hB5 := hB4.trans (hb5.mono hB4.size)
  have z5 := z4.below hb5 z4.lt
  clear hr4 hb5 hB4 z4
  have hr6 := hr5.other z5 (by decide) (by decide) (grown_set6 w5 (w.heap.size) (.int .i64 1) (.int .u8 62) (.slice A5 3 c5) (.string ⟨#[]⟩) (.int .u8 99) (.string ⟨#[]⟩))
  have hB6 := below_set6 hB5 (b := w.heap.size) (by omega) (.int .i64 1) (.int .u8 62) (.slice A5 3 c5) (.string ⟨#[]⟩) (.int .u8 99) (.string ⟨#[]⟩)
  obtain ⟨d0, d1, d2, d3, d4, d5⟩ := Blk.cells6 z5
  have y0 := z5.frozen 0
  have y1 := z5.frozen 1
  have y2 := z5.frozen 2
  have y3 := z5.frozen 3
  have y4 := z5.frozen 4
  have y5 := z5.frozen 5
  go_wp2_with fail
  refine bodyPost_ret (v := .agg #[.int .i64 1, .int .u8 62, .slice A5 3 c5, .string ⟨#[]⟩, .int .u8 99, .string ⟨#[]⟩]) (by simp [results, Tryd.results16, go_sem, d0, d1, d2, d3, d4, d5]) rfl ⟨_, _, rfl, hr6.rdp, hB6⟩
 have e1 : ((c.toNat : Int) == 62) = false := (byte_ne (b := 62) h1).1
 clear HC1 HC2 z0 hB0
 by_cases h2 : c = 61
 ·subst h2
  have hB := (Below.refl w.heap.size w).alloc (Nat.le_refl _) (.cells #[.int .i64 3, .int .u8 0, .slice none 0 0, .string ⟨#[33]⟩, .int .u8 124, .string ⟨#[48, 48, 48, 48, 48, 48, 48, 48]⟩] 30)
  clear e0 e1
  go_enter Tryd.func16, Tryd.ntmps16
  go_wp2_with fail
  refine bodyPost_ret (v := .agg #[.int .i64 3, .int .u8 0, .slice none 0 0, .string ⟨#[33]⟩, .int .u8 124, .string ⟨#[48, 48, 48, 48, 48, 48, 48, 48]⟩]) (by simp [results, Tryd.results16, go_sem]) rfl ⟨_, _, rfl, fun h => absurd h (by decide), hB⟩
 have e2 : ((c.toNat : Int) == 61) = false := (byte_ne (b := 61) h2).1
 have HE : attrR c = ⟨0, 0, [], [], 0, []⟩ := by unfold attrR; rw [if_neg h0, if_neg h1, if_neg h2]
 rw [HE]
 clear HE h0 h1 h2
 have hB := (Below.refl w.heap.size w).alloc (Nat.le_refl _) (.cells #[.int .i64 0, .int .u8 0, .slice none 0 0, .string ⟨#[]⟩, .int .u8 0, .string ⟨#[]⟩] 30)
 go_enter Tryd.func16, Tryd.ntmps16
 go_wp2_with fail
 refine bodyPost_ret (v := .agg #[.int .i64 0, .int .u8 0, .slice none 0 0, .string ⟨#[]⟩, .int .u8 0, .string ⟨#[]⟩]) (by simp [results, Tryd.results16, go_sem]) rfl ⟨_, _, rfl, fun h => absurd h (by decide), hB⟩
end Go.Proofs.YtfifeofmfpjgfaaDoor
