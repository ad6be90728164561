/-
  Stage 19's laws, walked: ReportSafe.
-/
import Derived.Test.YtfifeofmfpjgfaaDoorG40
import Derived.Deep.Cut
namespace Go.Proofs.YtfifeofmfpjgfaaDoor
open Go.RowKit
set_option maxRecDepth 100000 in
set_option maxHeartbeats 16000000 in
theorem reportSafe_walk (s : Sc) (hs : okSc s) (m : Mo) (_hm : okM m) (a : ByteArray) (ha : a.size ≤ maxLen) (w : World) (ht : Tab w) : Calls Tryd.prog 5 #[scV s, moV m, .string a] w fun e w' => e = .returned (.bool true) ∧ Below w.heap.size w w' := by
 obtain ⟨⟨ask⟩⟩ := a
 have hal : ask.length ≤ maxLen := ha
 show Calls Tryd.prog 5 #[scV s, moV m, .string ⟨ask.toArray⟩] w _
 obtain ⟨_, _, hrow, hcol, _, _, _, _, _, hsy⟩ := hs
 obtain ⟨q0, hq0⟩ : ∃ q, placeR s true = q := ⟨_, rfl⟩
 have o0 : Ok19 q0 := hq0 ▸ ok_place19 s true
 obtain ⟨q1, hq1⟩ : ∃ q, placeR s false = q := ⟨_, rfl⟩
 have o1 : Ok19 q1 := hq1 ▸ ok_place19 s false
 obtain ⟨q2, hq2⟩ : ∃ q, modeR m true s.row = q := ⟨_, rfl⟩
 have o2 : Ok19 q2 := hq2 ▸ ok_mode19 m true s.row
 obtain ⟨q3, hq3⟩ : ∃ q, modeR m false s.col = q := ⟨_, rfl⟩
 have o3 : Ok19 q3 := hq3 ▸ ok_mode19 m false s.col
 obtain ⟨q4, hq4⟩ : ∃ q, setR s ask = q := ⟨_, rfl⟩
 have o4 : Ok19 q4 := hq4 ▸ ok_set19 s ask
 obtain ⟨q5, hq5⟩ : ∃ q, flagsR s.row = q := ⟨_, rfl⟩
 have o5 : Ok19 q5 := hq5 ▸ ok_flags19 s.row
 obtain ⟨q6, hq6⟩ : ∃ q, fineR = q := ⟨_, rfl⟩
 have o6 : Ok19 q6 := hq6 ▸ ok_fine19
 obtain ⟨q7, hq7⟩ : ∃ q, versR = q := ⟨_, rfl⟩
 have o7 : Ok19 q7 := hq7 ▸ ok_vers19
 obtain ⟨q8, hq8⟩ : ∃ q, attrR 0 = q := ⟨_, rfl⟩
 have o8 : Ok19 q8 := hq8 ▸ ok_attr0
 obtain ⟨q9, hq9⟩ : ∃ q, attrR 62 = q := ⟨_, rfl⟩
 have o9 : Ok19 q9 := hq9 ▸ ok_attr1
 obtain ⟨q10, hq10⟩ : ∃ q, attrR 61 = q := ⟨_, rfl⟩
 have o10 : Ok19 q10 := hq10 ▸ ok_attr2
 have H0 : Hid (∀ W, Calls Tryd.prog 11 #[scV s, .bool true] W fun e w' => ∃ v, e = .returned v ∧ FSq q0 v w' ∧ Below W.heap.size W w') := Lib.hid fun W => fsq_of (hq0 ▸ pplace_any s true W)
 have H1 : Hid (∀ W, Calls Tryd.prog 11 #[scV s, .bool false] W fun e w' => ∃ v, e = .returned v ∧ FSq q1 v w' ∧ Below W.heap.size W w') := Lib.hid fun W => fsq_of (hq1 ▸ pplace_any s false W)
 have H2 : Hid (∀ W, Calls Tryd.prog 17 #[moV m, .bool true, .int .i64 s.row] W fun e w' => ∃ v, e = .returned v ∧ FSq q2 v w' ∧ Below W.heap.size W w') := Lib.hid fun W => fsq_of (hq2 ▸ pmode19_any m true s.row hrow W)
 have H3 : Hid (∀ W, Calls Tryd.prog 17 #[moV m, .bool false, .int .i64 s.col] W fun e w' => ∃ v, e = .returned v ∧ FSq q3 v w' ∧ Below W.heap.size W w') := Lib.hid fun W => fsq_of (hq3 ▸ pmode19_any m false s.col hcol W)
 have H4 : Hid (∀ W, Below w.heap.size w W → Calls Tryd.prog 13 #[scV s, .string ⟨ask.toArray⟩] W fun e w' => ∃ v, e = .returned v ∧ FSq q4 v w' ∧ Below W.heap.size W w') := Lib.hid fun W hW => fsq_of (hq4 ▸ pSetting_any s hsy ask hal W (ht.below hW))
 have H5 : Hid (∀ W, Calls Tryd.prog 19 #[.int .i64 s.row] W fun e w' => ∃ v, e = .returned v ∧ FSq q5 v w' ∧ Below W.heap.size W w') := Lib.hid fun W => fsq_of (hq5 ▸ pflags19_any s.row W)
 have H6 : Hid (∀ W, Calls Tryd.prog 21 #[] W fun e w' => ∃ v, e = .returned v ∧ FSq q6 v w' ∧ Below W.heap.size W w') := Lib.hid fun W => fsq_of (hq6 ▸ pfine_any W)
 have H7 : Hid (∀ W, Calls Tryd.prog 23 #[] W fun e w' => ∃ v, e = .returned v ∧ FSq q7 v w' ∧ Below W.heap.size W w') := Lib.hid fun W => fsq_of (hq7 ▸ (pversion_any W).mono fun _ _ ⟨h, hb⟩ => ⟨none, 0, h, fun h => absurd h (by decide), hb⟩)
 have H8 : Hid (∀ W, Calls Tryd.prog 15 #[.int .u8 0] W fun e w' => ∃ v, e = .returned v ∧ FSq q8 v w' ∧ Below W.heap.size W w') := Lib.hid fun W => fsq_of (hq8 ▸ pattr_any 0 W)
 have H9 : Hid (∀ W, Calls Tryd.prog 15 #[.int .u8 62] W fun e w' => ∃ v, e = .returned v ∧ FSq q9 v w' ∧ Below W.heap.size W w') := Lib.hid fun W => fsq_of (hq9 ▸ pattr_any 62 W)
 have H10 : Hid (∀ W, Calls Tryd.prog 15 #[.int .u8 61] W fun e w' => ∃ v, e = .returned v ∧ FSq q10 v w' ∧ Below W.heap.size W w') := Lib.hid fun W => fsq_of (hq10 ▸ pattr_any 61 W)
 have HOK : Hid (∀ x ∈ [q0, q1, q2, q3, q4, q5, q6, q7, q8, q9, q10], Ok19 x) := Lib.hid (by simp only [List.forall_mem_cons]; exact ⟨o0, o1, o2, o3, o4, o5, o6, o7, o8, o9, o10, fun _ h => by cases h⟩)
 have HSQ : Hid (∀ (W : World) (A : Option Addr) (c : Nat) (x : Sq), x ∈ [q0, q1, q2, q3, q4, q5, q6, q7, q8, q9, q10] → RdP W A x.params → SqIn W x A c) := Lib.hid fun W A c x hx hr => (HOK.out x hx).sqin hr
 clear hq0 o0 hq1 o1 hq2 o2 hq3 o3 hq4 o4 hq5 o5 hq6 o6 hq7 o7 hq8 o8 hq9 o9 hq10 o10 hrow hcol hsy hal ha
 obtain ⟨s0, s1, s2, s3, s4, s5, s6, s7, s8, ⟨s9, s10, s11, s12, s13, s14, s15, s16, s17, s18⟩⟩ := s
 obtain ⟨m0, m1, m2, m3, m4, m5, m6, m7, m8, m9⟩ := m
 unfold scV at H0 H1 H4 ⊢
 unfold moV at H2 H3 ⊢
 simp only at H0 H1 H2 H3 H4 H5 ⊢
 have kb := (Blk.new w 25 #[.int .i64 s0, .int .i64 s1, .int .i64 s2, .int .i64 s3, .int .i64 s4, .int .i64 s5, .int .i64 s6, .int .i64 s7, .int .i64 s8, .bool s9, .bool s10, .bool s11, .bool s12, .bool s13, .bool s14, .bool s15, .int .i64 s16, .int .i64 s17, .int .i64 s18]).alloc (.cells #[.bool m0, .bool m1, .bool m2, .bool m3, .bool m4, .bool m5, .bool m6, .int .i64 m7, .int .i64 m8, .int .i64 m9] 35)
 have kc := Blk.new (w.alloc (.cells #[.int .i64 s0, .int .i64 s1, .int .i64 s2, .int .i64 s3, .int .i64 s4, .int .i64 s5, .int .i64 s6, .int .i64 s7, .int .i64 s8, .bool s9, .bool s10, .bool s11, .bool s12, .bool s13, .bool s14, .bool s15, .int .i64 s16, .int .i64 s17, .int .i64 s18] 25)) 35 #[.bool m0, .bool m1, .bool m2, .bool m3, .bool m4, .bool m5, .bool m6, .int .i64 m7, .int .i64 m8, .int .i64 m9]
 rw [World.size_alloc] at kc
 have hB := ((Below.refl w.heap.size w).alloc (Nat.le_refl _) (.cells #[.int .i64 s0, .int .i64 s1, .int .i64 s2, .int .i64 s3, .int .i64 s4, .int .i64 s5, .int .i64 s6, .int .i64 s7, .int .i64 s8, .bool s9, .bool s10, .bool s11, .bool s12, .bool s13, .bool s14, .bool s15, .int .i64 s16, .int .i64 s17, .int .i64 s18] 25)).alloc (by simp) (.cells #[.bool m0, .bool m1, .bool m2, .bool m3, .bool m4, .bool m5, .bool m6, .int .i64 m7, .int .i64 m8, .int .i64 m9] 35)
 go_enter Tryd.func5, Tryd.ntmps5
 go_upto_region 1 with (fail)
 obtain ⟨w1, hw1⟩ : ∃ x, ((w.alloc (.cells #[.int .i64 s0, .int .i64 s1, .int .i64 s2, .int .i64 s3, .int .i64 s4, .int .i64 s5, .int .i64 s6, .int .i64 s7, .int .i64 s8, .bool s9, .bool s10, .bool s11, .bool s12, .bool s13, .bool s14, .bool s15, .int .i64 s16, .int .i64 s17, .int .i64 s18] 25)).alloc (.cells #[.bool m0, .bool m1, .bool m2, .bool m3, .bool m4, .bool m5, .bool m6, .int .i64 m7, .int .i64 m8, .int .i64 m9] 35)) = x := ⟨_, rfl⟩
 rw [hw1] at kb kc hB ⊢
 clear hw1
 go_wp2_with fail
 refine (repAwake _ (ht.below hB)).mono ?_
 rintro e w2 ⟨rfl, hb2⟩
 replace kb := kb.below hb2 kb.lt
 replace kc := kc.below hb2 kc.lt
 replace hB := hB.trans (hb2.mono hB.size)
 clear hb2
 by_cases hl : (ask.length : Int) > 100
 ·go_wp2_with fail
  go_ret
  exact ⟨rfl, hB⟩
 go_upto_region 4 with (fail)
 have hst : ∀ f ∈ ([⟨1, 16, FSq q0⟩, ⟨3, 18, FSq q1⟩, ⟨7, 22, FSq q2⟩, ⟨11, 26, FSq q3⟩, ⟨14, 29, FSq q4⟩, ⟨17, 32, FSq q5⟩, ⟨18, 33, FSq q6⟩, ⟨19, 34, FSq q7⟩, ⟨20, 35, FSq q8⟩, ⟨21, 36, FSq q9⟩, ⟨22, 37, FSq q10⟩, ⟨23, 38, FQs [q0, q1, q2, q3, q4, q5, q6, q7, q8, q9, q10] 11⟩, ⟨24, 8, FQs [q0, q1, q2, q3, q4, q5, q6, q7, q8, q9, q10] 11⟩] : List Fact), f.ok := List.forall_mem_cons.2 ⟨fsq_ok _ _ _, List.forall_mem_cons.2 ⟨fsq_ok _ _ _, List.forall_mem_cons.2 ⟨fsq_ok _ _ _, List.forall_mem_cons.2 ⟨fsq_ok _ _ _, List.forall_mem_cons.2 ⟨fsq_ok _ _ _, List.forall_mem_cons.2 ⟨fsq_ok _ _ _, List.forall_mem_cons.2 ⟨fsq_ok _ _ _, List.forall_mem_cons.2 ⟨fsq_ok _ _ _, List.forall_mem_cons.2 ⟨fsq_ok _ _ _, List.forall_mem_cons.2 ⟨fsq_ok _ _ _, List.forall_mem_cons.2 ⟨fsq_ok _ _ _, List.forall_mem_cons.2 ⟨fqs_ok _ _ _ _, List.forall_mem_cons.2 ⟨fqs_ok _ _ _ _, fun _ h => by cases h⟩⟩⟩⟩⟩⟩⟩⟩⟩⟩⟩⟩⟩
 refine wp_region_told (w1 := w2) (K := [⟨1, 16, FSq q0⟩, ⟨3, 18, FSq q1⟩, ⟨7, 22, FSq q2⟩, ⟨11, 26, FSq q3⟩, ⟨14, 29, FSq q4⟩, ⟨17, 32, FSq q5⟩, ⟨18, 33, FSq q6⟩, ⟨19, 34, FSq q7⟩, ⟨20, 35, FSq q8⟩, ⟨21, 36, FSq q9⟩, ⟨22, 37, FSq q10⟩, ⟨23, 38, FQs [q0, q1, q2, q3, q4, q5, q6, q7, q8, q9, q10] 11⟩, ⟨24, 8, FQs [q0, q1, q2, q3, q4, q5, q6, q7, q8, q9, q10] 11⟩]) (ix := 1000) (R0 := fun _ _ _ => True) (R1 := fun _ _ _ => True) [16, 18, 22, 26, 29, 32, 33, 34, 35, 36, 37, 38, 8] (⟨#[.agg #[.int .i64 s0, .int .i64 s1, .int .i64 s2, .int .i64 s3, .int .i64 s4, .int .i64 s5, .int .i64 s6, .int .i64 s7, .int .i64 s8, .bool s9, .bool s10, .bool s11, .bool s12, .bool s13, .bool s14, .bool s15, .int .i64 s16, .int .i64 s17, .int .i64 s18], .agg #[.bool m0, .bool m1, .bool m2, .bool m3, .bool m4, .bool m5, .bool m6, .int .i64 m7, .int .i64 m8, .int .i64 m9], .string ⟨ask.toArray⟩, .pointer (some ⟨w.heap.size, 0, none⟩), .pointer (some ⟨(w.heap.size + 1), 0, none⟩), undef, .bool false, .bool true, undef, undef, .bool true, .string ⟨ask.toArray⟩, .int .i64 (ask.length : Int), .bool (decide ((100 : Int) < (ask.length : Int))), undef, .agg #[.int .i64 s0, .int .i64 s1, .int .i64 s2, .int .i64 s3, .int .i64 s4, .int .i64 s5, .int .i64 s6, .int .i64 s7, .int .i64 s8, .bool s9, .bool s10, .bool s11, .bool s12, .bool s13, .bool s14, .bool s15, .int .i64 s16, .int .i64 s17, .int .i64 s18], undef, .agg #[.int .i64 s0, .int .i64 s1, .int .i64 s2, .int .i64 s3, .int .i64 s4, .int .i64 s5, .int .i64 s6, .int .i64 s7, .int .i64 s8, .bool s9, .bool s10, .bool s11, .bool s12, .bool s13, .bool s14, .bool s15, .int .i64 s16, .int .i64 s17, .int .i64 s18], undef, .agg #[.bool m0, .bool m1, .bool m2, .bool m3, .bool m4, .bool m5, .bool m6, .int .i64 m7, .int .i64 m8, .int .i64 m9], .pointer (some ⟨w.heap.size, 2, none⟩), .int .i64 s2, undef, .agg #[.bool m0, .bool m1, .bool m2, .bool m3, .bool m4, .bool m5, .bool m6, .int .i64 m7, .int .i64 m8, .int .i64 m9], .pointer (some ⟨w.heap.size, 3, none⟩), .int .i64 s3, undef, .agg #[.int .i64 s0, .int .i64 s1, .int .i64 s2, .int .i64 s3, .int .i64 s4, .int .i64 s5, .int .i64 s6, .int .i64 s7, .int .i64 s8, .bool s9, .bool s10, .bool s11, .bool s12, .bool s13, .bool s14, .bool s15, .int .i64 s16, .int .i64 s17, .int .i64 s18], .string ⟨ask.toArray⟩, undef, .pointer (some ⟨w.heap.size, 2, none⟩), .int .i64 s2, undef, undef, undef, undef, undef, undef, undef, undef, undef, undef, undef, undef, undef, undef, undef, undef, undef, undef, undef, undef], []⟩) (fun g => ⟨#[.agg #[.int .i64 s0, .int .i64 s1, .int .i64 s2, .int .i64 s3, .int .i64 s4, .int .i64 s5, .int .i64 s6, .int .i64 s7, .int .i64 s8, .bool s9, .bool s10, .bool s11, .bool s12, .bool s13, .bool s14, .bool s15, .int .i64 s16, .int .i64 s17, .int .i64 s18], .agg #[.bool m0, .bool m1, .bool m2, .bool m3, .bool m4, .bool m5, .bool m6, .int .i64 m7, .int .i64 m8, .int .i64 m9], .string ⟨ask.toArray⟩, .pointer (some ⟨w.heap.size, 0, none⟩), .pointer (some ⟨(w.heap.size + 1), 0, none⟩), undef, .bool false, .bool true, (g 8), undef, .bool true, .string ⟨ask.toArray⟩, .int .i64 (ask.length : Int), .bool (decide ((100 : Int) < (ask.length : Int))), undef, .agg #[.int .i64 s0, .int .i64 s1, .int .i64 s2, .int .i64 s3, .int .i64 s4, .int .i64 s5, .int .i64 s6, .int .i64 s7, .int .i64 s8, .bool s9, .bool s10, .bool s11, .bool s12, .bool s13, .bool s14, .bool s15, .int .i64 s16, .int .i64 s17, .int .i64 s18], (g 16), .agg #[.int .i64 s0, .int .i64 s1, .int .i64 s2, .int .i64 s3, .int .i64 s4, .int .i64 s5, .int .i64 s6, .int .i64 s7, .int .i64 s8, .bool s9, .bool s10, .bool s11, .bool s12, .bool s13, .bool s14, .bool s15, .int .i64 s16, .int .i64 s17, .int .i64 s18], (g 18), .agg #[.bool m0, .bool m1, .bool m2, .bool m3, .bool m4, .bool m5, .bool m6, .int .i64 m7, .int .i64 m8, .int .i64 m9], .pointer (some ⟨w.heap.size, 2, none⟩), .int .i64 s2, (g 22), .agg #[.bool m0, .bool m1, .bool m2, .bool m3, .bool m4, .bool m5, .bool m6, .int .i64 m7, .int .i64 m8, .int .i64 m9], .pointer (some ⟨w.heap.size, 3, none⟩), .int .i64 s3, (g 26), .agg #[.int .i64 s0, .int .i64 s1, .int .i64 s2, .int .i64 s3, .int .i64 s4, .int .i64 s5, .int .i64 s6, .int .i64 s7, .int .i64 s8, .bool s9, .bool s10, .bool s11, .bool s12, .bool s13, .bool s14, .bool s15, .int .i64 s16, .int .i64 s17, .int .i64 s18], .string ⟨ask.toArray⟩, (g 29), .pointer (some ⟨w.heap.size, 2, none⟩), .int .i64 s2, (g 32), (g 33), (g 34), (g 35), (g 36), (g 37), (g 38), undef, undef, undef, undef, undef, undef, undef, undef, undef, undef, undef, undef, undef], []⟩) [.agg #[.int .i64 s0, .int .i64 s1, .int .i64 s2, .int .i64 s3, .int .i64 s4, .int .i64 s5, .int .i64 s6, .int .i64 s7, .int .i64 s8, .bool s9, .bool s10, .bool s11, .bool s12, .bool s13, .bool s14, .bool s15, .int .i64 s16, .int .i64 s17, .int .i64 s18], undef, .agg #[.int .i64 s0, .int .i64 s1, .int .i64 s2, .int .i64 s3, .int .i64 s4, .int .i64 s5, .int .i64 s6, .int .i64 s7, .int .i64 s8, .bool s9, .bool s10, .bool s11, .bool s12, .bool s13, .bool s14, .bool s15, .int .i64 s16, .int .i64 s17, .int .i64 s18], undef, .agg #[.bool m0, .bool m1, .bool m2, .bool m3, .bool m4, .bool m5, .bool m6, .int .i64 m7, .int .i64 m8, .int .i64 m9], .pointer (some ⟨w.heap.size, 2, none⟩), .int .i64 s2, undef, .agg #[.bool m0, .bool m1, .bool m2, .bool m3, .bool m4, .bool m5, .bool m6, .int .i64 m7, .int .i64 m8, .int .i64 m9], .pointer (some ⟨w.heap.size, 3, none⟩), .int .i64 s3, undef, .agg #[.int .i64 s0, .int .i64 s1, .int .i64 s2, .int .i64 s3, .int .i64 s4, .int .i64 s5, .int .i64 s6, .int .i64 s7, .int .i64 s8, .bool s9, .bool s10, .bool s11, .bool s12, .bool s13, .bool s14, .bool s15, .int .i64 s16, .int .i64 s17, .int .i64 s18], .string ⟨ask.toArray⟩, undef, .pointer (some ⟨w.heap.size, 2, none⟩), .int .i64 s2, undef, undef, undef, undef, undef, undef, undef, undef] (by kernel_rfl) (by kernel_rfl) (by kernel_rfl) (fun g => by kernel_rfl) (by kernel_rfl) (Below.refl _ _).drew (by decide) (by kernel_rfl)
  (goes_cons (gkL hst (fun W hW => kb.below hW kb.lt) Tryd.underlying25)
  (goes_cons (gkG (fun g => #[.agg #[.int .i64 s0, .int .i64 s1, .int .i64 s2, .int .i64 s3, .int .i64 s4, .int .i64 s5, .int .i64 s6, .int .i64 s7, .int .i64 s8, .bool s9, .bool s10, .bool s11, .bool s12, .bool s13, .bool s14, .bool s15, .int .i64 s16, .int .i64 s17, .int .i64 s18], .bool true]) hst 0 (fun g W hW hin => H0.out W))
  (goes_cons (gkL hst (fun W hW => kb.below hW kb.lt) Tryd.underlying25)
  (goes_cons (gkG (fun g => #[.agg #[.int .i64 s0, .int .i64 s1, .int .i64 s2, .int .i64 s3, .int .i64 s4, .int .i64 s5, .int .i64 s6, .int .i64 s7, .int .i64 s8, .bool s9, .bool s10, .bool s11, .bool s12, .bool s13, .bool s14, .bool s15, .int .i64 s16, .int .i64 s17, .int .i64 s18], .bool false]) hst 1 (fun g W hW hin => H1.out W))
  (goes_cons (gkL hst (fun W hW => kc.below hW kc.lt) Tryd.underlying35)
  (goes_cons (gkP (fun _ => .pointer (some ⟨w.heap.size, 2, none⟩)))
  (goes_cons (gkC hst (fun W hW => (kb.below hW kb.lt).cell 2))
  (goes_cons (gkG (fun g => #[.agg #[.bool m0, .bool m1, .bool m2, .bool m3, .bool m4, .bool m5, .bool m6, .int .i64 m7, .int .i64 m8, .int .i64 m9], .bool true, .int .i64 s2]) hst 2 (fun g W hW hin => H2.out W))
  (goes_cons (gkL hst (fun W hW => kc.below hW kc.lt) Tryd.underlying35)
  (goes_cons (gkP (fun _ => .pointer (some ⟨w.heap.size, 3, none⟩)))
  (goes_cons (gkC hst (fun W hW => (kb.below hW kb.lt).cell 3))
  (goes_cons (gkG (fun g => #[.agg #[.bool m0, .bool m1, .bool m2, .bool m3, .bool m4, .bool m5, .bool m6, .int .i64 m7, .int .i64 m8, .int .i64 m9], .bool false, .int .i64 s3]) hst 3 (fun g W hW hin => H3.out W))
  (goes_cons (gkL hst (fun W hW => kb.below hW kb.lt) Tryd.underlying25)
  (goes_cons (gkP (fun _ => .string ⟨ask.toArray⟩))
  (goes_cons (gkG (fun g => #[.agg #[.int .i64 s0, .int .i64 s1, .int .i64 s2, .int .i64 s3, .int .i64 s4, .int .i64 s5, .int .i64 s6, .int .i64 s7, .int .i64 s8, .bool s9, .bool s10, .bool s11, .bool s12, .bool s13, .bool s14, .bool s15, .int .i64 s16, .int .i64 s17, .int .i64 s18], .string ⟨ask.toArray⟩]) hst 4 (fun g W hW hin => H4.out W (hB.trans (hW.mono hB.size))))
  (goes_cons (gkP (fun _ => .pointer (some ⟨w.heap.size, 2, none⟩)))
  (goes_cons (gkC hst (fun W hW => (kb.below hW kb.lt).cell 2))
  (goes_cons (gkG (fun g => #[.int .i64 s2]) hst 5 (fun g W hW hin => H5.out W))
  (goes_cons (gkG (fun g => #[]) hst 6 (fun g W hW hin => H6.out W))
  (goes_cons (gkG (fun g => #[]) hst 7 (fun g W hW hin => H7.out W))
  (goes_cons (gkG (fun g => #[.int .u8 0]) hst 8 (fun g W hW hin => H8.out W))
  (goes_cons (gkG (fun g => #[.int .u8 62]) hst 9 (fun g W hW hin => H9.out W))
  (goes_cons (gkG (fun g => #[.int .u8 61]) hst 10 (fun g W hW hin => H10.out W))
  (goes_cons (goesK_any hst (ahead_none (by decide)) rfl (by decide) (by decide) 11 rfl (by kernel_rfl) (fun g => by kernel_rfl) rfl (fun g => by kernel_rfl) (fun g W hW hin => (by
    obtain ⟨A0, c0, e0, r0⟩ := hin 0 _ rfl (by kernel_rfl)
    obtain ⟨A1, c1, e1, r1⟩ := hin 1 _ rfl (by kernel_rfl)
    obtain ⟨A2, c2, e2, r2⟩ := hin 2 _ rfl (by kernel_rfl)
    obtain ⟨A3, c3, e3, r3⟩ := hin 3 _ rfl (by kernel_rfl)
    obtain ⟨A4, c4, e4, r4⟩ := hin 4 _ rfl (by kernel_rfl)
    obtain ⟨A5, c5, e5, r5⟩ := hin 5 _ rfl (by kernel_rfl)
    obtain ⟨A6, c6, e6, r6⟩ := hin 6 _ rfl (by kernel_rfl)
    obtain ⟨A7, c7, e7, r7⟩ := hin 7 _ rfl (by kernel_rfl)
    obtain ⟨A8, c8, e8, r8⟩ := hin 8 _ rfl (by kernel_rfl)
    obtain ⟨A9, c9, e9, r9⟩ := hin 9 _ rfl (by kernel_rfl)
    obtain ⟨A10, c10, e10, r10⟩ := hin 10 _ rfl (by kernel_rfl)
    simp only at e0 e1 e2 e3 e4 e5 e6 e7 e8 e9 e10
    simp only [e0, e1, e2, e3, e4, e5, e6, e7, e8, e9, e10]
    refine ⟨.slice (some ⟨W.heap.size, 0, none⟩) 11 11, W.alloc (.cells (rowQ [(q0, A0, c0), (q1, A1, c1), (q2, A2, c2), (q3, A3, c3), (q4, A4, c4), (q5, A5, c5), (q6, A6, c6), (q7, A7, c7), (q8, A8, c8), (q9, A9, c9), (q10, A10, c10)]).toArray 30), by kernel_rfl, ⟨_, rfl, rdq_new W [(q0, A0, c0), (q1, A1, c1), (q2, A2, c2), (q3, A3, c3), (q4, A4, c4), (q5, A5, c5), (q6, A6, c6), (q7, A7, c7), (q8, A8, c8), (q9, A9, c9), (q10, A10, c10)] ?_⟩, (Below.refl _ _).alloc (Nat.le_refl _) _⟩
    simp only [List.forall_mem_cons]
    exact ⟨HSQ.out W A0 c0 q0 (by simp) r0, HSQ.out W A1 c1 q1 (by simp) r1, HSQ.out W A2 c2 q2 (by simp) r2, HSQ.out W A3 c3 q3 (by simp) r3, HSQ.out W A4 c4 q4 (by simp) r4, HSQ.out W A5 c5 q5 (by simp) r5, HSQ.out W A6 c6 q6 (by simp) r6, HSQ.out W A7 c7 q7 (by simp) r7, HSQ.out W A8 c8 q8 (by simp) r8, HSQ.out W A9 c9 q9 (by simp) r9, HSQ.out W A10 c10 q10 (by simp) r10, fun _ h => by cases h⟩)))
  (goes_cons (goesK_name (p' := 11) hst (ahead_none (by decide)) rfl (by decide) (by decide) 12 rfl rfl (by kernel_rfl) (by kernel_rfl) (fun g => by kernel_rfl) rfl (fun g => by kernel_rfl) (fun g w => by kernel_rfl)) goes_nil))))))))))))))))))))))))) ?_
 intro g w3 hW hK
 obtain ⟨A, ev, hra⟩ := hK 12 _ rfl
 simp only at ev
 simp only [ev]
 replace hB := hB.trans (hW.mono hB.size)
 clear hW hK hst H0 H1 H2 H3 H4 H5 H6 H7 H8 H9 H10 HSQ kb kc ev
 go_wp2_with fail
 go_loopw [9] (fun z wr => ∃ j : Nat, j ≤ 11 ∧ z = .int .i64 j ∧ Below w3.heap.size w3 wr) (fun z _ => 11 - (intOf z).toNat)
 case atStart => exact ⟨0, Nat.zero_le _, rfl, Below.refl _ _⟩
 case round =>
  obtain ⟨j, hj, rfl, hbw⟩ := hrel
  by_cases hlt : j < 11
  ·have v1 : (j : Int) < 11 := by omega
   have v0 : (0 : Int) ≤ (j : Int) := by omega
   have v2 : IntKind.i64.wrap ((j : Int) + 1) = (j : Int) + 1 := by rw [IntKind.wrap_i64]; omega
   have hka : j < [q0, q1, q2, q3, q4, q5, q6, q7, q8, q9, q10].length := hlt
   obtain ⟨s, hs⟩ : ∃ s, [q0, q1, q2, q3, q4, q5, q6, q7, q8, q9, q10][j]'hka = s := ⟨_, rfl⟩
   obtain ⟨b, o, A1, c1, hA, hsq, a0, a1, a2, a3, a4, a5⟩ := (hra.below hbw).at_ hka hs
   cases hA
   have hok := HOK.out s (by rw [← hs]; exact List.getElem_mem hka)
   have hr1 : RdP wr A1 s.params := hsq.rd
   have HM := Lib.hid (may_any s A1 c1 0 wr hok.may (by have := hok.np; omega) (by have := hok.ni; omega) hr1)
   clear hs hsq hok hr1
   go_wp2_with fail
   refine HM.out.mono ?_
   rintro e w4 ⟨rfl, hb4⟩
   clear HM a0 a1 a2 a3 a4 a5
   go_wp2_with fail
   go_roundw
   case rel => exact ⟨j + 1, by omega, by go_num, hbw.trans (hb4.mono hbw.size)⟩
   case measure => simp [intOf]; omega
  ·have v1 : ¬ ((j : Int) < 11) := by omega
   have hB9 := hB.trans (hbw.mono hB.size)
   clear hra HOK
   go_wp2_with fail
   go_ret
   exact ⟨rfl, hB9⟩
end Go.Proofs.YtfifeofmfpjgfaaDoor
