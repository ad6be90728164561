/-
  Stage 19's laws, walked: ReportStyle.
-/
import Derived.Test.YtfifeofmfpjgfaaDoorG14
import Derived.Test.YtfifeofmfpjgfaaDoorG40
import Derived.Deep.Cut
namespace Go.Proofs.YtfifeofmfpjgfaaDoor
open Go.RowKit
theorem par_some {s : Sy} (h : mayY s = true) : 0 < (parL (parY s)).length := by
 obtain ⟨R, hR⟩ : ∃ R, parY s = [0] :: R := ⟨_, by unfold parY; rw [if_pos h]; rfl⟩
 rw [hR]
 cases R with
 | nil => show 0 < (partL [0]).length; decide +kernel
 | cons r R => show 0 < (partL [0] ++ (59 :: parL (r :: R))).length; simp; omega
set_option maxRecDepth 100000 in
set_option maxHeartbeats 16000000 in
theorem reportStyle_walk (s : Sc) (hs : okSc s) (t : Sc) (ht0 : okSc t) (w : World) (ht : Tab w) : Calls Tryd.prog 7 #[scV s, scV t] w fun e w' => e = .returned (.bool true) ∧ Below w.heap.size w w' := by
 obtain ⟨q1, hq1⟩ : ∃ q, setR s [109] = q := ⟨_, rfl⟩
 obtain ⟨q2, hq2⟩ : ∃ q, setR t [109] = q := ⟨_, rfl⟩
 obtain ⟨y1, hy1⟩ : ∃ q, mayY s.style = q := ⟨_, rfl⟩
 obtain ⟨y2, hy2⟩ : ∃ q, mayY t.style = q := ⟨_, rfl⟩
 have m1 : Sml q1 := hq1 ▸ sml_set s [109]
 have m2 : Sml q2 := hq2 ▸ sml_set t [109]
 obtain ⟨r, hr⟩ : ∃ r, decide (s.style = t.style) = r := ⟨_, rfl⟩
 have hrs : r = true ↔ s.style = t.style := by rw [← hr]; simp
 have hsm : y1 = true → y2 = true → sameB q1 q2 = r := fun a b => by
  rw [Bool.eq_iff_iff, sameB_iff, ← hq1, ← hq2, hrs]
  exact set_style (by rw [hy1]; exact a) (by rw [hy2]; exact b)
 have hdat : y1 = true → ∃ k, q1.data.length = k + 1 ∧ 0 < k ∧ q1.data.length ≤ maxLen ∧ q1.data[k]? = some 109 := fun a => by
  have e : q1.data = parL (parY s.style) ++ [109] := by
   rw [← hq1]
   show saidR s [109] = _
   unfold saidR
   rw [if_pos rfl, if_pos (by rw [hy1]; exact a)]
  have h1 := (par_lens s.style).2.2
  have h2 := par_some (s := s.style) (by rw [hy1]; exact a)
  refine ⟨(parL (parY s.style)).length, by rw [e]; simp, h2, by rw [e]; simp [maxLen]; omega, by rw [e]; simp⟩
 have HM1 : Hid (∀ W, Calls Tryd.prog 26 #[syV s.style] W fun e w' => e = .returned (.bool y1) ∧ Below W.heap.size W w') := Lib.hid fun W => rmay18_any s.style y1 hy1 W
 have HM2 : Hid (∀ W, Calls Tryd.prog 26 #[syV t.style] W fun e w' => e = .returned (.bool y2) ∧ Below W.heap.size W w') := Lib.hid fun W => rmay18_any t.style y2 hy2 W
 have HSY0 := Lib.hid fun p q W => sy_eql s.style t.style r hrs p q W
 have HP1 : Hid (∀ W, Below w.heap.size w W → Calls Tryd.prog 13 #[scV s, .string ⟨#[109]⟩] W fun e w' => ∃ v, e = .returned v ∧ FSq q1 v w' ∧ Below W.heap.size W w') := Lib.hid fun W hW => fsq_of (hq1 ▸ pSetting_any s hs.2.2.2.2.2.2.2.2.2 [109] (by decide) W (ht.below hW))
 have HP2 : Hid (∀ W, Below w.heap.size w W → Calls Tryd.prog 13 #[scV t, .string ⟨#[109]⟩] W fun e w' => ∃ v, e = .returned v ∧ FSq q2 v w' ∧ Below W.heap.size W w') := Lib.hid fun W hW => fsq_of (hq2 ▸ pSetting_any t ht0.2.2.2.2.2.2.2.2.2 [109] (by decide) W (ht.below hW))
 have HE0 : Hid (y1 = true → y2 = true → ∀ (W : World) {u v : Value}, FSq q1 u W → FSq q2 v W → Calls Tryd.prog 10 #[u, v] W fun e w' => e = .returned (.bool r) ∧ Below W.heap.size W w') := Lib.hid fun a b W _ _ hu hv => same19 (hsm a b) m1 m2 hu hv
 have HD := Lib.hid hdat
 clear hq1 hq2 hy1 hy2 m1 m2 hr hrs hsm hdat hs ht0
 obtain ⟨s0, s1, s2, s3, s4, s5, s6, s7, s8, ⟨s9, s10, s11, s12, s13, s14, s15, s16, s17, s18⟩⟩ := s
 obtain ⟨t0, t1, t2, t3, t4, t5, t6, t7, t8, ⟨t9, t10, t11, t12, t13, t14, t15, t16, t17, t18⟩⟩ := t
 unfold scV at HP1 HP2 ⊢
 unfold syV at HM1 HM2 HSY0
 simp only at HP1 HP2 HM1 HM2 HSY0 ⊢
 have kb := (Blk.new w 25 #[.int .i64 s0, .int .i64 s1, .int .i64 s2, .int .i64 s3, .int .i64 s4, .int .i64 s5, .int .i64 s6, .int .i64 s7, .int .i64 s8, .bool s9, .bool s10, .bool s11, .bool s12, .bool s13, .bool s14, .bool s15, .int .i64 s16, .int .i64 s17, .int .i64 s18]).alloc (.cells #[.int .i64 t0, .int .i64 t1, .int .i64 t2, .int .i64 t3, .int .i64 t4, .int .i64 t5, .int .i64 t6, .int .i64 t7, .int .i64 t8, .bool t9, .bool t10, .bool t11, .bool t12, .bool t13, .bool t14, .bool t15, .int .i64 t16, .int .i64 t17, .int .i64 t18] 25)
 have kc := Blk.new (w.alloc (.cells #[.int .i64 s0, .int .i64 s1, .int .i64 s2, .int .i64 s3, .int .i64 s4, .int .i64 s5, .int .i64 s6, .int .i64 s7, .int .i64 s8, .bool s9, .bool s10, .bool s11, .bool s12, .bool s13, .bool s14, .bool s15, .int .i64 s16, .int .i64 s17, .int .i64 s18] 25)) 25 #[.int .i64 t0, .int .i64 t1, .int .i64 t2, .int .i64 t3, .int .i64 t4, .int .i64 t5, .int .i64 t6, .int .i64 t7, .int .i64 t8, .bool t9, .bool t10, .bool t11, .bool t12, .bool t13, .bool t14, .bool t15, .int .i64 t16, .int .i64 t17, .int .i64 t18]
 rw [World.size_alloc] at kc
 have hB := ((Below.refl w.heap.size w).alloc (Nat.le_refl _) (.cells #[.int .i64 s0, .int .i64 s1, .int .i64 s2, .int .i64 s3, .int .i64 s4, .int .i64 s5, .int .i64 s6, .int .i64 s7, .int .i64 s8, .bool s9, .bool s10, .bool s11, .bool s12, .bool s13, .bool s14, .bool s15, .int .i64 s16, .int .i64 s17, .int .i64 s18] 25)).alloc (by simp) (.cells #[.int .i64 t0, .int .i64 t1, .int .i64 t2, .int .i64 t3, .int .i64 t4, .int .i64 t5, .int .i64 t6, .int .i64 t7, .int .i64 t8, .bool t9, .bool t10, .bool t11, .bool t12, .bool t13, .bool t14, .bool t15, .int .i64 t16, .int .i64 t17, .int .i64 t18] 25)
 go_enter Tryd.func7, Tryd.ntmps7
 go_upto_region 1 with (fail)
 obtain ⟨w1, hw1⟩ : ∃ x, ((w.alloc (.cells #[.int .i64 s0, .int .i64 s1, .int .i64 s2, .int .i64 s3, .int .i64 s4, .int .i64 s5, .int .i64 s6, .int .i64 s7, .int .i64 s8, .bool s9, .bool s10, .bool s11, .bool s12, .bool s13, .bool s14, .bool s15, .int .i64 s16, .int .i64 s17, .int .i64 s18] 25)).alloc (.cells #[.int .i64 t0, .int .i64 t1, .int .i64 t2, .int .i64 t3, .int .i64 t4, .int .i64 t5, .int .i64 t6, .int .i64 t7, .int .i64 t8, .bool t9, .bool t10, .bool t11, .bool t12, .bool t13, .bool t14, .bool t15, .int .i64 t16, .int .i64 t17, .int .i64 t18] 25)) = x := ⟨_, rfl⟩
 rw [hw1] at kb kc hB ⊢
 clear hw1
 go_wp2_with fail
 refine (repAwake _ (ht.below hB)).mono ?_
 rintro e w2 ⟨rfl, hb2⟩
 replace kb := kb.below hb2 kb.lt
 replace kc := kc.below hb2 kc.lt
 replace hB := hB.trans (hb2.mono hB.size)
 clear hb2
 have a9 := kb.cell 9
 have a10 := kb.cell 10
 have a11 := kb.cell 11
 have a12 := kb.cell 12
 have a13 := kb.cell 13
 have a14 := kb.cell 14
 have a15 := kb.cell 15
 have a16 := kb.cell 16
 have a17 := kb.cell 17
 have a18 := kb.cell 18
 go_wp2_with fail
 refine (HM1.out _).mono ?_
 rintro e w3 ⟨rfl, hb⟩
 clear a9 a10 a11 a12 a13 a14 a15 a16 a17 a18
 replace kb := kb.below hb kb.lt
 replace kc := kc.below hb kc.lt
 replace hB := hB.trans (hb.mono hB.size)
 clear hb
 cases y1 with
 | false =>
   go_wp2_with fail
   go_ret
   exact ⟨rfl, hB⟩
 | true =>
   have a9 := kc.cell 9
   have a10 := kc.cell 10
   have a11 := kc.cell 11
   have a12 := kc.cell 12
   have a13 := kc.cell 13
   have a14 := kc.cell 14
   have a15 := kc.cell 15
   have a16 := kc.cell 16
   have a17 := kc.cell 17
   have a18 := kc.cell 18
   go_wp2_with fail
   refine (HM2.out _).mono ?_
   rintro e w4 ⟨rfl, hb⟩
   clear a9 a10 a11 a12 a13 a14 a15 a16 a17 a18
   replace kb := kb.below hb kb.lt
   replace kc := kc.below hb kc.lt
   replace hB := hB.trans (hb.mono hB.size)
   clear hb
   cases y2 with
   | false =>
     go_wp2_with fail
     go_ret
     exact ⟨rfl, hB⟩
   | true =>
     have HE := Lib.hid fun (W : World) {u v : Value} => HE0.out (by trivial) (by trivial) W (u := u) (v := v)
     obtain ⟨k, hk1, hk0, hk2, hk3⟩ := HD.out (by trivial)
     have HSY := HSY0
     clear HM1 HM2 HE0 HD HSY0
     go_upto_region 4 with (fail)
     go_wp2_with (with_reducible refine Blk.wp_get kb Tryd.underlying25 rfl (by kernel_rfl) rfl (.tmp 2) rfl rfl ?_)
     refine (HP1.out _ hB).mono ?_
     rintro e w5 ⟨v, rfl, ⟨A1, c1, rfl, ra⟩, hb⟩
     unfold sqV
     have kA := Blk.new w5 30 #[.int .i64 q1.kind, .int .u8 (q1.priv.toNat : Int), .slice A1 q1.params.length c1, .string ⟨q1.inter.toArray⟩, .int .u8 (q1.final.toNat : Int), .string ⟨q1.data.toArray⟩]
     replace ra := ra.below ((Below.refl _ _).alloc (Nat.le_refl _) (.cells #[.int .i64 q1.kind, .int .u8 (q1.priv.toNat : Int), .slice A1 q1.params.length c1, .string ⟨q1.inter.toArray⟩, .int .u8 (q1.final.toNat : Int), .string ⟨q1.data.toArray⟩] 30))
     replace kb := (kb.below hb kb.lt).alloc (.cells #[.int .i64 q1.kind, .int .u8 (q1.priv.toNat : Int), .slice A1 q1.params.length c1, .string ⟨q1.inter.toArray⟩, .int .u8 (q1.final.toNat : Int), .string ⟨q1.data.toArray⟩] 30)
     replace kc := (kc.below hb kc.lt).alloc (.cells #[.int .i64 q1.kind, .int .u8 (q1.priv.toNat : Int), .slice A1 q1.params.length c1, .string ⟨q1.inter.toArray⟩, .int .u8 (q1.final.toNat : Int), .string ⟨q1.data.toArray⟩] 30)
     replace hB := (hB.trans (hb.mono hB.size)).alloc (Nat.le_trans hB.size hb.size) (.cells #[.int .i64 q1.kind, .int .u8 (q1.priv.toNat : Int), .slice A1 q1.params.length c1, .string ⟨q1.inter.toArray⟩, .int .u8 (q1.final.toNat : Int), .string ⟨q1.data.toArray⟩] 30)
     clear hb
     go_upto_region 5 with (fail)
     obtain ⟨w6, hw⟩ : ∃ x, w5.alloc (.cells #[.int .i64 q1.kind, .int .u8 (q1.priv.toNat : Int), .slice A1 q1.params.length c1, .string ⟨q1.inter.toArray⟩, .int .u8 (q1.final.toNat : Int), .string ⟨q1.data.toArray⟩] 30) = x := ⟨_, rfl⟩
     rw [hw] at kA ra hB kb kc ⊢
     clear hw
     go_wp2_with (with_reducible refine Blk.wp_get kc Tryd.underlying25 rfl (by kernel_rfl) rfl (.tmp 3) rfl rfl ?_)
     refine (HP2.out _ hB).mono ?_
     rintro e w7 ⟨v, rfl, ⟨A2, c2, rfl, rb⟩, hb⟩
     unfold sqV
     have kB := Blk.new w7 30 #[.int .i64 q2.kind, .int .u8 (q2.priv.toNat : Int), .slice A2 q2.params.length c2, .string ⟨q2.inter.toArray⟩, .int .u8 (q2.final.toNat : Int), .string ⟨q2.data.toArray⟩]
     replace rb := rb.below ((Below.refl _ _).alloc (Nat.le_refl _) (.cells #[.int .i64 q2.kind, .int .u8 (q2.priv.toNat : Int), .slice A2 q2.params.length c2, .string ⟨q2.inter.toArray⟩, .int .u8 (q2.final.toNat : Int), .string ⟨q2.data.toArray⟩] 30))
     replace kb := (kb.below hb kb.lt).alloc (.cells #[.int .i64 q2.kind, .int .u8 (q2.priv.toNat : Int), .slice A2 q2.params.length c2, .string ⟨q2.inter.toArray⟩, .int .u8 (q2.final.toNat : Int), .string ⟨q2.data.toArray⟩] 30)
     replace kc := (kc.below hb kc.lt).alloc (.cells #[.int .i64 q2.kind, .int .u8 (q2.priv.toNat : Int), .slice A2 q2.params.length c2, .string ⟨q2.inter.toArray⟩, .int .u8 (q2.final.toNat : Int), .string ⟨q2.data.toArray⟩] 30)
     replace kA := (kA.below hb kA.lt).alloc (.cells #[.int .i64 q2.kind, .int .u8 (q2.priv.toNat : Int), .slice A2 q2.params.length c2, .string ⟨q2.inter.toArray⟩, .int .u8 (q2.final.toNat : Int), .string ⟨q2.data.toArray⟩] 30)
     replace ra := (ra.below hb).below ((Below.refl _ _).alloc (Nat.le_refl _) (.cells #[.int .i64 q2.kind, .int .u8 (q2.priv.toNat : Int), .slice A2 q2.params.length c2, .string ⟨q2.inter.toArray⟩, .int .u8 (q2.final.toNat : Int), .string ⟨q2.data.toArray⟩] 30))
     replace hB := (hB.trans (hb.mono hB.size)).alloc (Nat.le_trans hB.size hb.size) (.cells #[.int .i64 q2.kind, .int .u8 (q2.priv.toNat : Int), .slice A2 q2.params.length c2, .string ⟨q2.inter.toArray⟩, .int .u8 (q2.final.toNat : Int), .string ⟨q2.data.toArray⟩] 30)
     clear hb
     go_upto_region 6 with (fail)
     obtain ⟨w8, hw⟩ : ∃ x, w7.alloc (.cells #[.int .i64 q2.kind, .int .u8 (q2.priv.toNat : Int), .slice A2 q2.params.length c2, .string ⟨q2.inter.toArray⟩, .int .u8 (q2.final.toNat : Int), .string ⟨q2.data.toArray⟩] 30) = x := ⟨_, rfl⟩
     rw [hw] at kB rb hB kb kc kA ra ⊢
     clear hw
     have hsimpG := gtr19 (n := q1.data.length) (by omega)
     have hsimpK := sub19 hk1 hk2
     have hsimpZ := safe_bool19
     have hst : ∀ f ∈ ([] : List Fact), f.ok := fun _ h => by cases h
     refine wp_region_told (w1 := w8) (K := []) (ix := 1000) (R0 := fun _ _ _ => True) (R1 := fun _ _ _ => True) [] (⟨#[.agg #[.int .i64 s0, .int .i64 s1, .int .i64 s2, .int .i64 s3, .int .i64 s4, .int .i64 s5, .int .i64 s6, .int .i64 s7, .int .i64 s8, .bool s9, .bool s10, .bool s11, .bool s12, .bool s13, .bool s14, .bool s15, .int .i64 s16, .int .i64 s17, .int .i64 s18], .agg #[.int .i64 t0, .int .i64 t1, .int .i64 t2, .int .i64 t3, .int .i64 t4, .int .i64 t5, .int .i64 t6, .int .i64 t7, .int .i64 t8, .bool t9, .bool t10, .bool t11, .bool t12, .bool t13, .bool t14, .bool t15, .int .i64 t16, .int .i64 t17, .int .i64 t18], .pointer (some ⟨w.heap.size, 0, none⟩), .pointer (some ⟨(w.heap.size + 1), 0, none⟩), .bool true, .bool true, .pointer (some ⟨w5.heap.size, 0, none⟩), .pointer (some ⟨w7.heap.size, 0, none⟩), .bool true, .pointer (some ⟨w.heap.size, 9, none⟩), .agg #[.bool s9, .bool s10, .bool s11, .bool s12, .bool s13, .bool s14, .bool s15, .int .i64 s16, .int .i64 s17, .int .i64 s18], .bool true, .bool false, .bool false, .pointer (some ⟨(w.heap.size + 1), 9, none⟩), .agg #[.bool t9, .bool t10, .bool t11, .bool t12, .bool t13, .bool t14, .bool t15, .int .i64 t16, .int .i64 t17, .int .i64 t18], .bool true, .bool false, .bool false, undef, .agg #[.int .i64 s0, .int .i64 s1, .int .i64 s2, .int .i64 s3, .int .i64 s4, .int .i64 s5, .int .i64 s6, .int .i64 s7, .int .i64 s8, .bool s9, .bool s10, .bool s11, .bool s12, .bool s13, .bool s14, .bool s15, .int .i64 s16, .int .i64 s17, .int .i64 s18], .agg #[.int .i64 q1.kind, .int .u8 (q1.priv.toNat : Int), .slice A1 q1.params.length c1, .string ⟨q1.inter.toArray⟩, .int .u8 (q1.final.toNat : Int), .string ⟨q1.data.toArray⟩], .agg #[.int .i64 t0, .int .i64 t1, .int .i64 t2, .int .i64 t3, .int .i64 t4, .int .i64 t5, .int .i64 t6, .int .i64 t7, .int .i64 t8, .bool t9, .bool t10, .bool t11, .bool t12, .bool t13, .bool t14, .bool t15, .int .i64 t16, .int .i64 t17, .int .i64 t18], .agg #[.int .i64 q2.kind, .int .u8 (q2.priv.toNat : Int), .slice A2 q2.params.length c2, .string ⟨q2.inter.toArray⟩, .int .u8 (q2.final.toNat : Int), .string ⟨q2.data.toArray⟩], .bool true, .bool true, .pointer (some ⟨w5.heap.size, 5, none⟩), .string ⟨q1.data.toArray⟩, .int .i64 (q1.data.length : Int), .bool true, .bool true, .bool true, .pointer (some ⟨w5.heap.size, 5, none⟩), .string ⟨q1.data.toArray⟩, .pointer (some ⟨w5.heap.size, 5, none⟩), .string ⟨q1.data.toArray⟩, .int .i64 (q1.data.length : Int), .int .i64 (k : Int), .int .u8 109, .bool true, .bool true, .bool true, .agg #[.int .i64 q1.kind, .int .u8 (q1.priv.toNat : Int), .slice A1 q1.params.length c1, .string ⟨q1.inter.toArray⟩, .int .u8 (q1.final.toNat : Int), .string ⟨q1.data.toArray⟩], .agg #[.int .i64 q2.kind, .int .u8 (q2.priv.toNat : Int), .slice A2 q2.params.length c2, .string ⟨q2.inter.toArray⟩, .int .u8 (q2.final.toNat : Int), .string ⟨q2.data.toArray⟩], .bool r, .pointer (some ⟨w.heap.size, 9, none⟩), .agg #[.bool s9, .bool s10, .bool s11, .bool s12, .bool s13, .bool s14, .bool s15, .int .i64 s16, .int .i64 s17, .int .i64 s18], .pointer (some ⟨(w.heap.size + 1), 9, none⟩), .agg #[.bool t9, .bool t10, .bool t11, .bool t12, .bool t13, .bool t14, .bool t15, .int .i64 t16, .int .i64 t17, .int .i64 t18], .bool r, .bool true, .bool true], []⟩) (fun g => ⟨#[.agg #[.int .i64 s0, .int .i64 s1, .int .i64 s2, .int .i64 s3, .int .i64 s4, .int .i64 s5, .int .i64 s6, .int .i64 s7, .int .i64 s8, .bool s9, .bool s10, .bool s11, .bool s12, .bool s13, .bool s14, .bool s15, .int .i64 s16, .int .i64 s17, .int .i64 s18], .agg #[.int .i64 t0, .int .i64 t1, .int .i64 t2, .int .i64 t3, .int .i64 t4, .int .i64 t5, .int .i64 t6, .int .i64 t7, .int .i64 t8, .bool t9, .bool t10, .bool t11, .bool t12, .bool t13, .bool t14, .bool t15, .int .i64 t16, .int .i64 t17, .int .i64 t18], .pointer (some ⟨w.heap.size, 0, none⟩), .pointer (some ⟨(w.heap.size + 1), 0, none⟩), .bool true, .bool true, .pointer (some ⟨w5.heap.size, 0, none⟩), .pointer (some ⟨w7.heap.size, 0, none⟩), .bool true, .pointer (some ⟨w.heap.size, 9, none⟩), .agg #[.bool s9, .bool s10, .bool s11, .bool s12, .bool s13, .bool s14, .bool s15, .int .i64 s16, .int .i64 s17, .int .i64 s18], .bool true, .bool false, .bool false, .pointer (some ⟨(w.heap.size + 1), 9, none⟩), .agg #[.bool t9, .bool t10, .bool t11, .bool t12, .bool t13, .bool t14, .bool t15, .int .i64 t16, .int .i64 t17, .int .i64 t18], .bool true, .bool false, .bool false, undef, .agg #[.int .i64 s0, .int .i64 s1, .int .i64 s2, .int .i64 s3, .int .i64 s4, .int .i64 s5, .int .i64 s6, .int .i64 s7, .int .i64 s8, .bool s9, .bool s10, .bool s11, .bool s12, .bool s13, .bool s14, .bool s15, .int .i64 s16, .int .i64 s17, .int .i64 s18], .agg #[.int .i64 q1.kind, .int .u8 (q1.priv.toNat : Int), .slice A1 q1.params.length c1, .string ⟨q1.inter.toArray⟩, .int .u8 (q1.final.toNat : Int), .string ⟨q1.data.toArray⟩], .agg #[.int .i64 t0, .int .i64 t1, .int .i64 t2, .int .i64 t3, .int .i64 t4, .int .i64 t5, .int .i64 t6, .int .i64 t7, .int .i64 t8, .bool t9, .bool t10, .bool t11, .bool t12, .bool t13, .bool t14, .bool t15, .int .i64 t16, .int .i64 t17, .int .i64 t18], .agg #[.int .i64 q2.kind, .int .u8 (q2.priv.toNat : Int), .slice A2 q2.params.length c2, .string ⟨q2.inter.toArray⟩, .int .u8 (q2.final.toNat : Int), .string ⟨q2.data.toArray⟩], .bool true, .bool true, .pointer (some ⟨w5.heap.size, 5, none⟩), .string ⟨q1.data.toArray⟩, .int .i64 (q1.data.length : Int), .bool true, .bool true, .bool true, .pointer (some ⟨w5.heap.size, 5, none⟩), .string ⟨q1.data.toArray⟩, .pointer (some ⟨w5.heap.size, 5, none⟩), .string ⟨q1.data.toArray⟩, .int .i64 (q1.data.length : Int), .int .i64 (k : Int), .int .u8 109, .bool true, .bool true, .bool true, .agg #[.int .i64 q1.kind, .int .u8 (q1.priv.toNat : Int), .slice A1 q1.params.length c1, .string ⟨q1.inter.toArray⟩, .int .u8 (q1.final.toNat : Int), .string ⟨q1.data.toArray⟩], .agg #[.int .i64 q2.kind, .int .u8 (q2.priv.toNat : Int), .slice A2 q2.params.length c2, .string ⟨q2.inter.toArray⟩, .int .u8 (q2.final.toNat : Int), .string ⟨q2.data.toArray⟩], .bool r, .pointer (some ⟨w.heap.size, 9, none⟩), .agg #[.bool s9, .bool s10, .bool s11, .bool s12, .bool s13, .bool s14, .bool s15, .int .i64 s16, .int .i64 s17, .int .i64 s18], .pointer (some ⟨(w.heap.size + 1), 9, none⟩), .agg #[.bool t9, .bool t10, .bool t11, .bool t12, .bool t13, .bool t14, .bool t15, .int .i64 t16, .int .i64 t17, .int .i64 t18], .bool r, .bool true, .bool true], []⟩) [.bool true, .bool true, .pointer (some ⟨w5.heap.size, 5, none⟩), .string ⟨q1.data.toArray⟩, .int .i64 (q1.data.length : Int), .bool true, .bool true, .bool true, .pointer (some ⟨w5.heap.size, 5, none⟩), .string ⟨q1.data.toArray⟩, .pointer (some ⟨w5.heap.size, 5, none⟩), .string ⟨q1.data.toArray⟩, .int .i64 (q1.data.length : Int), .int .i64 (k : Int), .int .u8 109, .bool true, .bool true, .bool true, .agg #[.int .i64 q1.kind, .int .u8 (q1.priv.toNat : Int), .slice A1 q1.params.length c1, .string ⟨q1.inter.toArray⟩, .int .u8 (q1.final.toNat : Int), .string ⟨q1.data.toArray⟩], .agg #[.int .i64 q2.kind, .int .u8 (q2.priv.toNat : Int), .slice A2 q2.params.length c2, .string ⟨q2.inter.toArray⟩, .int .u8 (q2.final.toNat : Int), .string ⟨q2.data.toArray⟩], .bool r, .pointer (some ⟨w.heap.size, 9, none⟩), .agg #[.bool s9, .bool s10, .bool s11, .bool s12, .bool s13, .bool s14, .bool s15, .int .i64 s16, .int .i64 s17, .int .i64 s18], .pointer (some ⟨(w.heap.size + 1), 9, none⟩), .agg #[.bool t9, .bool t10, .bool t11, .bool t12, .bool t13, .bool t14, .bool t15, .int .i64 t16, .int .i64 t17, .int .i64 t18], .bool r, .bool true, .bool true, .bool true] (by kernel_rfl) (by kernel_rfl) (by kernel_rfl) (fun g => by kernel_rfl) (by kernel_rfl) (Below.refl _ _).drew (by decide) (by kernel_rfl)
      (goes_cons (gkP (fun _ => .bool true))
      (goes_cons (gkP (fun _ => .bool true))
      (goes_cons (gkP (fun _ => .pointer (some ⟨w5.heap.size, 5, none⟩)))
      (goes_cons (gkC hst (fun W hW => (kA.below hW kA.lt).cell 5))
      (goes_cons (gkP (fun _ => .int .i64 (q1.data.length : Int)))
      (goes_cons (goesK_bin (v := .bool true) (xv := .int .i64 (q1.data.length : Int)) (yv := .int .i64 1) rfl (by decide) (by decide) (by kernel_rfl) (fun g => by kernel_rfl) rfl (fun g => by kernel_rfl) rfl (fun g => by kernel_rfl) (fun g => by kernel_rfl) hsimpG)
      (goes_cons (gkP (fun _ => .bool true))
      (goes_cons (gkP (fun _ => .bool true))
      (goes_cons (gkP (fun _ => .pointer (some ⟨w5.heap.size, 5, none⟩)))
      (goes_cons (gkC hst (fun W hW => (kA.below hW kA.lt).cell 5))
      (goes_cons (gkP (fun _ => .pointer (some ⟨w5.heap.size, 5, none⟩)))
      (goes_cons (gkC hst (fun W hW => (kA.below hW kA.lt).cell 5))
      (goes_cons (gkP (fun _ => .int .i64 (q1.data.length : Int)))
      (goes_cons (goesK_bin (v := .int .i64 (k : Int)) (xv := .int .i64 (q1.data.length : Int)) (yv := .int .i64 1) rfl (by decide) (by decide) (by kernel_rfl) (fun g => by kernel_rfl) rfl (fun g => by kernel_rfl) rfl (fun g => by kernel_rfl) (fun g => by kernel_rfl) hsimpK)
      (goes_cons (gkP (fun _ => .int .u8 109) (h := (fun g w => idx19 (b := 109) rfl hk3 rfl rfl rfl w)))
      (goes_cons (goesK_bin (v := .bool true) (xv := .int .u8 109) (yv := .int .u8 109) rfl (by decide) (by decide) (by kernel_rfl) (fun g => by kernel_rfl) rfl (fun g => by kernel_rfl) rfl (fun g => by kernel_rfl) (fun g => by kernel_rfl) (fun w => by go_simp))
      (goes_cons (gkP (fun _ => .bool true))
      (goes_cons (gkP (fun _ => .bool true))
      (goes_cons (gkL hst (fun W hW => kA.below hW kA.lt) Tryd.underlying30)
      (goes_cons (gkL hst (fun W hW => kB.below hW kB.lt) Tryd.underlying30)
      (goes_cons (gkK (fun g => #[.agg #[.int .i64 q1.kind, .int .u8 (q1.priv.toNat : Int), .slice A1 q1.params.length c1, .string ⟨q1.inter.toArray⟩, .int .u8 (q1.final.toNat : Int), .string ⟨q1.data.toArray⟩], .agg #[.int .i64 q2.kind, .int .u8 (q2.priv.toNat : Int), .slice A2 q2.params.length c2, .string ⟨q2.inter.toArray⟩, .int .u8 (q2.final.toNat : Int), .string ⟨q2.data.toArray⟩]]) hst (fun g W hW hin => HE.out W ⟨A1, c1, rfl, ra.below hW⟩ ⟨A2, c2, rfl, rb.below hW⟩))
      (goes_cons (gkP (fun _ => .pointer (some ⟨w.heap.size, 9, none⟩)))
      (goes_cons (goesK_mid hst (ahead_none (by decide)) rfl (by decide) (by decide) (by kernel_rfl) (fun g => by kernel_rfl) rfl (fun g => by kernel_rfl) rfl (fun g => by kernel_rfl) (fun W hW => rng19 (s := ⟨s0, s1, s2, s3, s4, s5, s6, s7, s8, ⟨s9, s10, s11, s12, s13, s14, s15, s16, s17, s18⟩⟩) (kb.below hW kb.lt)) Tryd.underlying23 rfl (by kernel_rfl))
      (goes_cons (gkP (fun _ => .pointer (some ⟨(w.heap.size + 1), 9, none⟩)))
      (goes_cons (goesK_mid hst (ahead_none (by decide)) rfl (by decide) (by decide) (by kernel_rfl) (fun g => by kernel_rfl) rfl (fun g => by kernel_rfl) rfl (fun g => by kernel_rfl) (fun W hW => rng19 (s := ⟨t0, t1, t2, t3, t4, t5, t6, t7, t8, ⟨t9, t10, t11, t12, t13, t14, t15, t16, t17, t18⟩⟩) (kc.below hW kc.lt)) Tryd.underlying23 rfl (by kernel_rfl))
      (goes_cons (gkB (.bool r) (.agg #[.bool s9, .bool s10, .bool s11, .bool s12, .bool s13, .bool s14, .bool s15, .int .i64 s16, .int .i64 s17, .int .i64 s18]) (.agg #[.bool t9, .bool t10, .bool t11, .bool t12, .bool t13, .bool t14, .bool t15, .int .i64 t16, .int .i64 t17, .int .i64 t18]) (HSY.out _ _))
      (goes_cons (goesK_bin (v := .bool true) (xv := .bool r) (yv := .bool r) rfl (by decide) (by decide) (by kernel_rfl) (fun g => by kernel_rfl) rfl (fun g => by kernel_rfl) rfl (fun g => by kernel_rfl) (fun g => by kernel_rfl) (hsimpZ r))
      (goes_cons (gkP (fun _ => .bool true))
      (goes_cons (gkP (fun _ => .bool true)) goes_nil))))))))))))))))))))))))))))) ?_
     intro g w9 hW _
     have hB3 := hB.trans (hW.mono hB.size)
     clear hW hB hst HP1 HP2 HE HSY
     go_wp2_with fail
     go_ret
     exact ⟨rfl, hB3⟩
end Go.Proofs.YtfifeofmfpjgfaaDoor
